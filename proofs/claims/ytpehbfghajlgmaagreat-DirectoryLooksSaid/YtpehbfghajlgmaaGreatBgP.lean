/- The reference's Prune. -/
import Derived.Test.YtpehbfghajlgmaaGreatBgR
import Derived.Test.YtpehbfghajlgmaaGreatPnR
namespace Go.Proofs.YtpehbfghajlgmaaGreat
open Go.RowKit
set_option linter.unusedVariables false
set_option linter.unusedSimpArgs false
/-- What stays of a directory at these pins. -/
def keepB (P : List Pn) (x : Bg) : Bool := x.s == 0 || covP x.k x.s P
def prnB (P : List Pn) (L : List Bg) : List Bg := L.filter (keepB P)
theorem prnB_take (P : List Pn) {L : List Bg} {q : Nat} (h : q < L.length) : prnB P (L.take (q + 1)) = prnB P (L.take q) ++ (if keepB P (L.getD q Bg.z) = true then [L.getD q Bg.z] else []) := by
  unfold prnB
  have e : L.take (q + 1) = L.take q ++ [L.getD q Bg.z] := by
    rw [List.take_add_one]
    simp [List.getD, h]
  rw [e, List.filter_append]
  congr 1
  simp only [List.filter_cons, List.filter_nil]
theorem prnB_len (P : List Pn) (L : List Bg) : (prnB P L).length ≤ L.length := List.length_filter_le _ _
theorem OwnBg.oneS {x : Bg} (hx : x.ok) (w : World) {s : Nat} (hs : w.heap.size = s) : OwnBg s [x] (.slice (some ⟨s, 0, none⟩) 1 1) (w.alloc (.cells #[.string x.n, .int .i64 x.r, .int .i64 x.k, .int .i64 x.s] 27)) := by
  subst hs
  exact OwnBg.one hx w
set_option maxRecDepth 100000 in
set_option maxHeartbeats 2000000 in
theorem rprune_any (L : List Bg) (u : Value) (P : List Pn) (pv : Value) (w : World) (hv : RdBg L u w) (hL : L.length ≤ 1000000) (hp : RdPn P pv w) (hP : P.length ≤ 1000000000000) :
    Calls Tryz.prog 22 #[u, pv] w fun e w' => ∃ v, e = .returned v ∧ OwnBg w.heap.size (prnB P L) v w' ∧ Below w.heap.size w w' := by
  obtain ⟨a, cap, rfl⟩ := hv.shape
  obtain ⟨pa, pc, rfl⟩ := hp.shape
  have HV := Lib.hid hv
  have HP := Lib.hid hp
  clear hv hp
  go_enter Tryz.func22, Tryz.ntmps22
  go_wp2
  go_loopw [5, 6] (fun d i wr => ∃ q : Nat, q ≤ L.length ∧ i = .int .i64 (q : Int) ∧ Hid (OwnBg w.heap.size (prnB P (L.take q)) d wr) ∧ Hid (Below w.heap.size w wr)) (fun _ i _ => L.length - (intOf i).toNat)
  case atStart => exact ⟨0, by omega, rfl, Lib.hid (OwnBg.empty _ _), Lib.hid (Below.refl _ _)⟩
  case round =>
    obtain ⟨q, hq, rfl, HD, HB⟩ := hrel
    obtain ⟨da, dc, rfl⟩ := HD.out.rd.shape
    by_cases hlt : q < L.length
    · have hqi : (q : Int) < (L.length : Int) := by omega
      have HDL := Lib.hid (show (prnB P (L.take q)).length ≤ 1000000 by have := prnB_len P (L.take q); rw [List.length_take] at this; omega)
      obtain ⟨b, off, rfl, hbl, c0, c1, c2, c3⟩ := (HV.out.below HB.out).at_ hlt
      have HOK := Lib.hid (HV.out.1.at_ q)
      have HT := Lib.hid (prnB_take P hlt)
      generalize L.getD q Bg.z = x at *
      obtain ⟨m, r, k, s⟩ := x
      simp only at c0 c1 c2 c3
      have HT : Hid (prnB P (L.take (q + 1)) = prnB P (L.take q) ++ (if (s == 0 || covP k s P) = true then [⟨m, r, k, s⟩] else [])) := HT
      generalize hD0 : prnB P (L.take q) = D at *
      clear hD0
      by_cases hr : s = 0
      · have HT2 : Hid (prnB P (L.take (q + 1)) = D ++ [⟨m, r, k, s⟩]) := Lib.hid (by rw [HT.out, if_pos (by simp [hr])])
        subst hr
        clear HT
        go_wp2
        go_quiet (fail)
        go_wp2_with (at_builtin; refine wp_appBg rfl _ _ 22 rfl w.heap.size D [⟨m, r, k, 0⟩] _ _ rfl rfl ((HD.out.drewN _).alloc _) (OwnBg.oneS HOK.out (wr.drewN _) rfl).rd.src ?_ ?_ ?_; (have h7 := HB.out.size; simp; omega); (have h7 := HDL.out; simp; omega); intro v3 w3 ho3 hb3; have O3 := Lib.hid ho3; have B3 := Lib.hid ((bal (below_drewN HB.out _) _).trans hb3); clear ho3 hb3)
        go_roundw
        case rel => exact ⟨q + 1, by omega, by go_num, Lib.hid (by rw [HT2.out]; exact O3.out), B3⟩
        case measure => simp [intOf]; omega
      · have hr2 : (s == 0) = false := by simpa using hr
        have HC := Lib.hid (fun m => rcovp_any P _ k s (wr.drewN m) ((HP.out.below HB.out).below (below_drewN (Below.refl _ _) m)) hP)
        cases hc : covP k s P with
        | true =>
          have HT2 : Hid (prnB P (L.take (q + 1)) = D ++ [⟨m, r, k, s⟩]) := Lib.hid (by rw [HT.out, hc, if_pos (by simp)])
          rw [hc] at HC
          clear HT hc
          go_wp2
          go_quiet ((go_at_call 44; exact quiet_left (HC.out _)))
          go_wp2_with (at_builtin; refine wp_appBg rfl _ _ 22 rfl w.heap.size D [⟨m, r, k, s⟩] _ _ rfl rfl ((HD.out.drewN _).alloc _) (OwnBg.oneS HOK.out (wr.drewN _) rfl).rd.src ?_ ?_ ?_; (have h7 := HB.out.size; simp; omega); (have h7 := HDL.out; simp; omega); intro v3 w3 ho3 hb3; have O3 := Lib.hid ho3; have B3 := Lib.hid ((bal (below_drewN HB.out _) _).trans hb3); clear ho3 hb3)
          go_roundw
          case rel => exact ⟨q + 1, by omega, by go_num, Lib.hid (by rw [HT2.out]; exact O3.out), B3⟩
          case measure => simp [intOf]; omega
        | false =>
          have HT2 : Hid (prnB P (L.take (q + 1)) = D) := Lib.hid (by rw [HT.out, hc, hr2, if_neg (by simp), List.append_nil])
          rw [hc] at HC
          clear HT hc
          go_wp2
          go_quiet ((go_at_call 44; exact quiet_left (HC.out _)))
          go_wp2
          go_roundw
          case rel => exact ⟨q + 1, by omega, by go_num, Lib.hid (by rw [HT2.out]; exact HD.out.drewN _), Lib.hid (below_drewN HB.out _)⟩
          case measure => simp [intOf]; omega
    · obtain rfl : q = L.length := by omega
      rw [List.take_length] at HD ⊢
      go_wp2
      go_ret
      exact ⟨_, rfl, HD.out, HB.out⟩
end Go.Proofs.YtpehbfghajlgmaaGreat
