/- The reference's Unbind and Rename. -/
import Derived.Test.YtpehbfghajlgmaaGreatBgQ
import Derived.Test.YtpehbfghajlgmaaGreatBgV
namespace Go.Proofs.YtpehbfghajlgmaaGreat
open Go.RowKit
set_option linter.unusedVariables false
set_option linter.unusedSimpArgs false
/-- What Unbind answers. -/
def UnbPost (L : List Bg) (i : Nat) (c : Int) (w : World) (e : Ending) (w' : World) : Prop := ∃ v, e = .returned (.tuple #[v, .int .i64 0]) ∧ OwnBg w.heap.size (L.set i ⟨(L.getD i Bg.z).n, (L.getD i Bg.z).r, (L.getD i Bg.z).k, c⟩) v w' ∧ Below w.heap.size w w'
section
variable (L : List Bg) (u : Value) (nm tn : ByteArray) (c : Int) (w : World)
set_option maxRecDepth 100000 in
set_option maxHeartbeats 2000000 in
theorem runb_bad (hv : RdBg L u w) (hL : L.length ≤ 1000000) (z : Int) (hz : valB L = z) (h0 : z ≠ 0) :
    Calls Tryz.prog 13 #[u, .string nm, .int .i64 c] w fun e w' => e = .returned (.tuple #[.slice none 0 0, .int .i64 z]) ∧ Below w.heap.size w w' := by
  have HVAL := Lib.hid (rvalb_any L u w hv (by omega))
  obtain ⟨a, cap, rfl⟩ := hv.shape
  rw [hz] at HVAL
  clear hv
  go_enter Tryz.func13, Tryz.ntmps13
  go_wp2_with (first
    | (go_at_call 19; refine HVAL.out.mono ?_; rintro e w1 ⟨rfl, hb1⟩; have B1 := Lib.hid hb1; clear hb1 HVAL))
  go_ret2
  exact ⟨rfl, B1.out⟩
set_option maxRecDepth 100000 in
set_option maxHeartbeats 2000000 in
theorem runb_name (hv : RdBg L u w) (hL : L.length ≤ 1000000) (hz : valB L = 0) (hn : nm.size ≤ maxLen) (h1 : nameB (byt nm) = false) :
    Calls Tryz.prog 13 #[u, .string nm, .int .i64 c] w fun e w' => e = .returned (.tuple #[.slice none 0 0, .int .i64 6]) ∧ Below w.heap.size w w' := by
  have HVAL := Lib.hid (rvalb_any L u w hv (by omega))
  obtain ⟨a, cap, rfl⟩ := hv.shape
  rw [hz] at HVAL
  have HNM := Lib.hid (fun w => risName_any nm w hn)
  rw [h1] at HNM
  clear hv
  go_enter Tryz.func13, Tryz.ntmps13
  go_wp2_with (first
    | (go_at_call 19; refine HVAL.out.mono ?_; rintro e w1 ⟨rfl, hb1⟩; have B1 := Lib.hid hb1; clear hb1 HVAL)
    | (go_at_call 30; refine (HNM.out _).mono ?_; rintro e w' ⟨rfl, rfl⟩; clear HNM))
  go_ret2
  exact ⟨rfl, B1.out⟩
set_option maxRecDepth 100000 in
set_option maxHeartbeats 2000000 in
theorem runb_rng (hv : RdBg L u w) (hL : L.length ≤ 1000000) (hz : valB L = 0) (hn : nm.size ≤ maxLen) (h1 : nameB (byt nm) = true) (h2 : c < 1) :
    Calls Tryz.prog 13 #[u, .string nm, .int .i64 c] w fun e w' => e = .returned (.tuple #[.slice none 0 0, .int .i64 5]) ∧ Below w.heap.size w w' := by
  have HVAL := Lib.hid (rvalb_any L u w hv (by omega))
  obtain ⟨a, cap, rfl⟩ := hv.shape
  rw [hz] at HVAL
  have HNM := Lib.hid (fun w => risName_any nm w hn)
  rw [h1] at HNM
  clear hv
  go_enter Tryz.func13, Tryz.ntmps13
  go_wp2_with (first
    | (go_at_call 19; refine HVAL.out.mono ?_; rintro e w1 ⟨rfl, hb1⟩; have B1 := Lib.hid hb1; clear hb1 HVAL)
    | (go_at_call 30; refine (HNM.out _).mono ?_; rintro e w' ⟨rfl, rfl⟩; clear HNM))
  go_ret2
  exact ⟨rfl, B1.out⟩
set_option maxRecDepth 100000 in
set_option maxHeartbeats 2000000 in
theorem runb_late (hv : RdBg L u w) (hL : L.length ≤ 1000000) (hz : valB L = 0) (hn : nm.size ≤ maxLen) (h1 : nameB (byt nm) = true) (g2 : ¬ c < 1) (h3 : lateB L c = true) :
    Calls Tryz.prog 13 #[u, .string nm, .int .i64 c] w fun e w' => e = .returned (.tuple #[.slice none 0 0, .int .i64 19]) ∧ Below w.heap.size w w' := by
  have HVAL := Lib.hid (rvalb_any L u w hv (by omega))
  obtain ⟨a, cap, rfl⟩ := hv.shape
  rw [hz] at HVAL
  have HNM := Lib.hid (fun w => risName_any nm w hn)
  have HLT := Lib.hid (fun (w' : World) (hb : Below w.heap.size w w') => rlate_any L _ c w' (hv.below hb) (by omega))
  rw [h1] at HNM
  rw [h3] at HLT
  clear hv
  go_enter Tryz.func13, Tryz.ntmps13
  go_wp2_with (first
    | (go_at_call 19; refine HVAL.out.mono ?_; rintro e w1 ⟨rfl, hb1⟩; have B1 := Lib.hid hb1; clear hb1 HVAL)
    | (go_at_call 30; refine (HNM.out _).mono ?_; rintro e w' ⟨rfl, rfl⟩; clear HNM)
    | (go_at_call 31; refine (HLT.out _ B1.out).mono ?_; rintro e w2 ⟨rfl, hb2⟩; have B2 := Lib.hid (bgo B1.out hb2); clear hb2 HLT))
  go_ret2
  exact ⟨rfl, B2.out⟩
set_option maxRecDepth 100000 in
set_option maxHeartbeats 2000000 in
theorem runb_unk (hv : RdBg L u w) (hL : L.length ≤ 1000000) (hz : valB L = 0) (hn : nm.size ≤ maxLen) (h1 : nameB (byt nm) = true) (g2 : ¬ c < 1) (h3 : lateB L c = false) (h4 : opnB L nm = none) :
    Calls Tryz.prog 13 #[u, .string nm, .int .i64 c] w fun e w' => e = .returned (.tuple #[.slice none 0 0, .int .i64 8]) ∧ Below w.heap.size w w' := by
  have HVAL := Lib.hid (rvalb_any L u w hv (by omega))
  obtain ⟨a, cap, rfl⟩ := hv.shape
  rw [hz] at HVAL
  have HNM := Lib.hid (fun w => risName_any nm w hn)
  have HLT := Lib.hid (fun (w' : World) (hb : Below w.heap.size w w') => rlate_any L _ c w' (hv.below hb) (by omega))
  have HOP := Lib.hid (fun (w' : World) (hb : Below w.heap.size w w') => ropen_any L _ nm w' (hv.below hb) (by omega))
  rw [h1] at HNM
  rw [h3] at HLT
  rw [h4] at HOP
  clear hv
  go_enter Tryz.func13, Tryz.ntmps13
  go_wp2_with (first
    | (go_at_call 19; refine HVAL.out.mono ?_; rintro e w1 ⟨rfl, hb1⟩; have B1 := Lib.hid hb1; clear hb1 HVAL)
    | (go_at_call 30; refine (HNM.out _).mono ?_; rintro e w' ⟨rfl, rfl⟩; clear HNM)
    | (go_at_call 31; refine (HLT.out _ B1.out).mono ?_; rintro e w2 ⟨rfl, hb2⟩; have B2 := Lib.hid (bgo B1.out hb2); clear hb2 HLT)
    | (go_at_call 33; refine (HOP.out _ B2.out).mono ?_; rintro e w3 ⟨rfl, hb3⟩; have B3 := Lib.hid (bgo B2.out hb3); clear hb3 HOP; simp only [opnI]))
  go_ret2
  exact ⟨rfl, B3.out⟩
set_option maxRecDepth 100000 in
set_option maxHeartbeats 2000000 in
theorem runb_ord (hv : RdBg L u w) (hL : L.length ≤ 1000000) (hz : valB L = 0) (hn : nm.size ≤ maxLen) (h1 : nameB (byt nm) = true) (g2 : ¬ c < 1) (h3 : lateB L c = false) (i : Nat) (h4 : opnB L nm = some i) (hi : i < L.length) (h6 : c ≤ (L.getD i Bg.z).k) :
    Calls Tryz.prog 13 #[u, .string nm, .int .i64 c] w fun e w' => e = .returned (.tuple #[.slice none 0 0, .int .i64 19]) ∧ Below w.heap.size w w' := by
  have HVAL := Lib.hid (rvalb_any L u w hv (by omega))
  obtain ⟨a, cap, rfl⟩ := hv.shape
  rw [hz] at HVAL
  have HNM := Lib.hid (fun w => risName_any nm w hn)
  have HLT := Lib.hid (fun (w' : World) (hb : Below w.heap.size w w') => rlate_any L _ c w' (hv.below hb) (by omega))
  have HOP := Lib.hid (fun (w' : World) (hb : Below w.heap.size w w') => ropen_any L _ nm w' (hv.below hb) (by omega))
  rw [h1] at HNM
  rw [h3] at HLT
  rw [h4] at HOP
  have HCL := Lib.hid (fun (w' : World) (hb : Below w.heap.size w w') => (hv.below hb).at_ hi)
  have hii : (i : Int) < (L.length : Int) := by omega
  have hi0 : ¬ (i : Int) < 0 := by omega
  have HKK := Lib.hid h6
  clear hv h6
  go_enter Tryz.func13, Tryz.ntmps13
  go_upto_region 13 with (first
    | (go_at_call 19; refine HVAL.out.mono ?_; rintro e w1 ⟨rfl, hb1⟩; have B1 := Lib.hid hb1; clear hb1 HVAL)
    | (go_at_call 30; refine (HNM.out _).mono ?_; rintro e w' ⟨rfl, rfl⟩; clear HNM)
    | (go_at_call 31; refine (HLT.out _ B1.out).mono ?_; rintro e w2 ⟨rfl, hb2⟩; have B2 := Lib.hid (bgo B1.out hb2); clear hb2 HLT)
    | (go_at_call 33; refine (HOP.out _ B2.out).mono ?_; rintro e w3 ⟨rfl, hb3⟩; have B3 := Lib.hid (bgo B2.out hb3); clear hb3 HOP; simp only [opnI]))
  obtain ⟨b, off, rfl, hbl, c0, c1, c2, c3⟩ := HCL.out _ B3.out
  obtain ⟨y, hy⟩ : ∃ y, L.getD i Bg.z = y := ⟨_, rfl⟩
  rw [hy] at c0 c1 c2 c3 HKK
  have HY := Lib.hid hy
  clear hy
  obtain ⟨ym, yr, yk, ys⟩ := y
  simp only at c0 c1 c2 c3
  have hck : c ≤ yk := HKK.out
  go_wp2
  go_ret2
  exact ⟨rfl, B3.out⟩
set_option maxRecDepth 100000 in
set_option maxHeartbeats 2000000 in
theorem runb_ok (hv : RdBg L u w) (hL : L.length ≤ 1000000) (hz : valB L = 0) (hn : nm.size ≤ maxLen) (h1 : nameB (byt nm) = true) (g2 : ¬ c < 1) (h3 : lateB L c = false) (i : Nat) (h4 : opnB L nm = some i) (hi : i < L.length) (h6 : ¬ c ≤ (L.getD i Bg.z).k) (hc : c ≤ 9223372036854775807) :
    Calls Tryz.prog 13 #[u, .string nm, .int .i64 c] w fun e w' => UnbPost L i c w e w' := by
  have HVAL := Lib.hid (rvalb_any L u w hv (by omega))
  obtain ⟨a, cap, rfl⟩ := hv.shape
  rw [hz] at HVAL
  have HNM := Lib.hid (fun w => risName_any nm w hn)
  have HLT := Lib.hid (fun (w' : World) (hb : Below w.heap.size w w') => rlate_any L _ c w' (hv.below hb) (by omega))
  have HOP := Lib.hid (fun (w' : World) (hb : Below w.heap.size w w') => ropen_any L _ nm w' (hv.below hb) (by omega))
  rw [h1] at HNM
  rw [h3] at HLT
  rw [h4] at HOP
  have HCL := Lib.hid (fun (w' : World) (hb : Below w.heap.size w w') => (hv.below hb).at_ hi)
  have hii : (i : Int) < (L.length : Int) := by omega
  have hi0 : ¬ (i : Int) < 0 := by omega
  have HRD := Lib.hid (fun (w' : World) (hb : Below w.heap.size w w') => hv.below hb)
  have HL := Lib.hid hL
  have HKK := Lib.hid h6
  have HC := Lib.hid hc
  have HCR := Lib.hid (show -9223372036854775808 ≤ c by omega)
  have HII := Lib.hid hi
  clear hv h6
  go_enter Tryz.func13, Tryz.ntmps13
  go_upto_region 13 with (first
    | (go_at_call 19; refine HVAL.out.mono ?_; rintro e w1 ⟨rfl, hb1⟩; have B1 := Lib.hid hb1; clear hb1 HVAL)
    | (go_at_call 30; refine (HNM.out _).mono ?_; rintro e w' ⟨rfl, rfl⟩; clear HNM)
    | (go_at_call 31; refine (HLT.out _ B1.out).mono ?_; rintro e w2 ⟨rfl, hb2⟩; have B2 := Lib.hid (bgo B1.out hb2); clear hb2 HLT)
    | (go_at_call 33; refine (HOP.out _ B2.out).mono ?_; rintro e w3 ⟨rfl, hb3⟩; have B3 := Lib.hid (bgo B2.out hb3); clear hb3 HOP; simp only [opnI]))
  obtain ⟨b, off, rfl, hbl, c0, c1, c2, c3⟩ := HCL.out _ B3.out
  obtain ⟨y, hy⟩ : ∃ y, L.getD i Bg.z = y := ⟨_, rfl⟩
  rw [hy] at c0 c1 c2 c3 HKK
  have HY := Lib.hid hy
  clear hy
  obtain ⟨ym, yr, yk, ys⟩ := y
  simp only at c0 c1 c2 c3
  have hck : ¬ c ≤ yk := by have h := HKK.out; simp only at h; omega
  have HOKY := Lib.hid ((HRD.out _ B3.out).1.at_ i)
  rw [HY.out] at HOKY
  go_upto_region 16 with (at_builtin; refine wp_appBg rfl _ _ 22 rfl w3.heap.size [] L _ _ rfl rfl (OwnBg.empty _ _) (HRD.out _ B3.out).src ?_ ?_ ?_; exact Nat.le_refl _; (have h7 := HL.out; simp <;> omega); intro v5 w5 ho5 hb5; have HO5 : Hid (OwnBg w3.heap.size L v5 w5) := Lib.hid ho5; have B5 := Lib.hid (bgo B3.out hb5); have C5 := Lib.hid hb5; clear ho5 hb5)
  obtain ⟨a5, c5, rfl⟩ := HO5.out.rd.shape
  obtain ⟨g5, rfl, hg5, -, -, -, -⟩ := HO5.out.block (by have := HII.out; omega)
  have HG5 := Lib.hid hg5
  have d3 := (HO5.out.cellsAt HII.out).2.2.2
  have f3 := HO5.out.frozen (i * 4 + 3)
  have HST := Lib.hid (HO5.out.storedT HII.out (c := c) ⟨HCR.out, HC.out⟩)
  rw [HY.out] at HST
  have BST := Lib.hid (bset B5.out g5 (i * 4 + 3) (.int .i64 c) (Nat.le_trans B3.out.size HG5.out))
  clear hg5 c0 c1 c2 c3
  go_wp2
  go_ret2
  exact ⟨_, rfl, by rw [HY.out]; exact HST.out.mono B3.out.size, BST.out⟩
set_option maxRecDepth 100000 in
set_option maxHeartbeats 2000000 in
theorem rren_bad (hv : RdBg L u w) (hL : L.length ≤ 1000000) (z : Int) (hz : valB L = z) (h0 : z ≠ 0) :
    Calls Tryz.prog 14 #[u, .string nm, .string tn, .int .i64 c] w fun e w' => e = .returned (.tuple #[.slice none 0 0, .int .i64 z]) ∧ Below w.heap.size w w' := by
  have HVAL := Lib.hid (rvalb_any L u w hv (by omega))
  obtain ⟨a, cap, rfl⟩ := hv.shape
  rw [hz] at HVAL
  clear hv
  go_enter Tryz.func14, Tryz.ntmps14
  go_wp2_with (first
    | (go_at_call 19; refine HVAL.out.mono ?_; rintro e w1 ⟨rfl, hb1⟩; have B1 := Lib.hid hb1; clear hb1 HVAL))
  go_ret2
  exact ⟨rfl, B1.out⟩
set_option maxRecDepth 100000 in
set_option maxHeartbeats 2000000 in
theorem rren_name (hv : RdBg L u w) (hL : L.length ≤ 1000000) (hz : valB L = 0) (hn : nm.size ≤ maxLen) (ht : tn.size ≤ maxLen) (h1 : nameB (byt nm) = false) :
    Calls Tryz.prog 14 #[u, .string nm, .string tn, .int .i64 c] w fun e w' => e = .returned (.tuple #[.slice none 0 0, .int .i64 6]) ∧ Below w.heap.size w w' := by
  have HVAL := Lib.hid (rvalb_any L u w hv (by omega))
  obtain ⟨a, cap, rfl⟩ := hv.shape
  rw [hz] at HVAL
  have HNM := Lib.hid (fun w => risName_any nm w hn)
  have HTM := Lib.hid (fun w => risName_any tn w ht)
  rw [h1] at HNM
  clear hv
  go_enter Tryz.func14, Tryz.ntmps14
  go_wp2_with (first
    | (go_at_call 19; refine HVAL.out.mono ?_; rintro e w1 ⟨rfl, hb1⟩; have B1 := Lib.hid hb1; clear hb1 HVAL)
    | (go_at_call 30; refine (HNM.out _).mono ?_; rintro e w' ⟨rfl, rfl⟩; clear HNM))
  go_ret2
  exact ⟨rfl, B1.out⟩
set_option maxRecDepth 100000 in
set_option maxHeartbeats 2000000 in
theorem rren_name2 (hv : RdBg L u w) (hL : L.length ≤ 1000000) (hz : valB L = 0) (hn : nm.size ≤ maxLen) (ht : tn.size ≤ maxLen) (h1 : nameB (byt nm) = true) (h1t : nameB (byt tn) = false) :
    Calls Tryz.prog 14 #[u, .string nm, .string tn, .int .i64 c] w fun e w' => e = .returned (.tuple #[.slice none 0 0, .int .i64 6]) ∧ Below w.heap.size w w' := by
  have HVAL := Lib.hid (rvalb_any L u w hv (by omega))
  obtain ⟨a, cap, rfl⟩ := hv.shape
  rw [hz] at HVAL
  have HNM := Lib.hid (fun w => risName_any nm w hn)
  have HTM := Lib.hid (fun w => risName_any tn w ht)
  rw [h1] at HNM
  rw [h1t] at HTM
  clear hv
  go_enter Tryz.func14, Tryz.ntmps14
  go_wp2_with (first
    | (go_at_call 19; refine HVAL.out.mono ?_; rintro e w1 ⟨rfl, hb1⟩; have B1 := Lib.hid hb1; clear hb1 HVAL)
    | (go_at_call 30; refine (HNM.out _).mono ?_; rintro e w' ⟨rfl, rfl⟩; clear HNM)
    | (go_at_call 30; refine (HTM.out _).mono ?_; rintro e w' ⟨rfl, rfl⟩; clear HTM))
  go_ret2
  exact ⟨rfl, B1.out⟩
set_option maxRecDepth 100000 in
set_option maxHeartbeats 2000000 in
theorem rren_rng (hv : RdBg L u w) (hL : L.length ≤ 1000000) (hz : valB L = 0) (hn : nm.size ≤ maxLen) (ht : tn.size ≤ maxLen) (h1 : nameB (byt nm) = true) (h1t : nameB (byt tn) = true) (h2 : c < 1) :
    Calls Tryz.prog 14 #[u, .string nm, .string tn, .int .i64 c] w fun e w' => e = .returned (.tuple #[.slice none 0 0, .int .i64 5]) ∧ Below w.heap.size w w' := by
  have HVAL := Lib.hid (rvalb_any L u w hv (by omega))
  obtain ⟨a, cap, rfl⟩ := hv.shape
  rw [hz] at HVAL
  have HNM := Lib.hid (fun w => risName_any nm w hn)
  have HTM := Lib.hid (fun w => risName_any tn w ht)
  rw [h1] at HNM
  rw [h1t] at HTM
  clear hv
  go_enter Tryz.func14, Tryz.ntmps14
  go_wp2_with (first
    | (go_at_call 19; refine HVAL.out.mono ?_; rintro e w1 ⟨rfl, hb1⟩; have B1 := Lib.hid hb1; clear hb1 HVAL)
    | (go_at_call 30; refine (HNM.out _).mono ?_; rintro e w' ⟨rfl, rfl⟩; clear HNM)
    | (go_at_call 30; refine (HTM.out _).mono ?_; rintro e w' ⟨rfl, rfl⟩; clear HTM))
  go_ret2
  exact ⟨rfl, B1.out⟩
set_option maxRecDepth 100000 in
set_option maxHeartbeats 2000000 in
theorem rren_late (hv : RdBg L u w) (hL : L.length ≤ 1000000) (hz : valB L = 0) (hn : nm.size ≤ maxLen) (ht : tn.size ≤ maxLen) (h1 : nameB (byt nm) = true) (h1t : nameB (byt tn) = true) (g2 : ¬ c < 1) (h3 : lateB L c = true) :
    Calls Tryz.prog 14 #[u, .string nm, .string tn, .int .i64 c] w fun e w' => e = .returned (.tuple #[.slice none 0 0, .int .i64 19]) ∧ Below w.heap.size w w' := by
  have HVAL := Lib.hid (rvalb_any L u w hv (by omega))
  obtain ⟨a, cap, rfl⟩ := hv.shape
  rw [hz] at HVAL
  have HNM := Lib.hid (fun w => risName_any nm w hn)
  have HTM := Lib.hid (fun w => risName_any tn w ht)
  have HLT := Lib.hid (fun (w' : World) (hb : Below w.heap.size w w') => rlate_any L _ c w' (hv.below hb) (by omega))
  rw [h1] at HNM
  rw [h1t] at HTM
  rw [h3] at HLT
  clear hv
  go_enter Tryz.func14, Tryz.ntmps14
  go_wp2_with (first
    | (go_at_call 19; refine HVAL.out.mono ?_; rintro e w1 ⟨rfl, hb1⟩; have B1 := Lib.hid hb1; clear hb1 HVAL)
    | (go_at_call 30; refine (HNM.out _).mono ?_; rintro e w' ⟨rfl, rfl⟩; clear HNM)
    | (go_at_call 30; refine (HTM.out _).mono ?_; rintro e w' ⟨rfl, rfl⟩; clear HTM)
    | (go_at_call 31; refine (HLT.out _ B1.out).mono ?_; rintro e w2 ⟨rfl, hb2⟩; have B2 := Lib.hid (bgo B1.out hb2); clear hb2 HLT))
  go_ret2
  exact ⟨rfl, B2.out⟩
set_option maxRecDepth 100000 in
set_option maxHeartbeats 2000000 in
theorem rren_unk (hv : RdBg L u w) (hL : L.length ≤ 1000000) (hz : valB L = 0) (hn : nm.size ≤ maxLen) (ht : tn.size ≤ maxLen) (h1 : nameB (byt nm) = true) (h1t : nameB (byt tn) = true) (g2 : ¬ c < 1) (h3 : lateB L c = false) (h4 : opnB L nm = none) :
    Calls Tryz.prog 14 #[u, .string nm, .string tn, .int .i64 c] w fun e w' => e = .returned (.tuple #[.slice none 0 0, .int .i64 8]) ∧ Below w.heap.size w w' := by
  have HVAL := Lib.hid (rvalb_any L u w hv (by omega))
  obtain ⟨a, cap, rfl⟩ := hv.shape
  rw [hz] at HVAL
  have HNM := Lib.hid (fun w => risName_any nm w hn)
  have HTM := Lib.hid (fun w => risName_any tn w ht)
  have HLT := Lib.hid (fun (w' : World) (hb : Below w.heap.size w w') => rlate_any L _ c w' (hv.below hb) (by omega))
  have HOP := Lib.hid (fun (w' : World) (hb : Below w.heap.size w w') => ropen_any L _ nm w' (hv.below hb) (by omega))
  rw [h1] at HNM
  rw [h1t] at HTM
  rw [h3] at HLT
  rw [h4] at HOP
  clear hv
  go_enter Tryz.func14, Tryz.ntmps14
  go_wp2_with (first
    | (go_at_call 19; refine HVAL.out.mono ?_; rintro e w1 ⟨rfl, hb1⟩; have B1 := Lib.hid hb1; clear hb1 HVAL)
    | (go_at_call 30; refine (HNM.out _).mono ?_; rintro e w' ⟨rfl, rfl⟩; clear HNM)
    | (go_at_call 30; refine (HTM.out _).mono ?_; rintro e w' ⟨rfl, rfl⟩; clear HTM)
    | (go_at_call 31; refine (HLT.out _ B1.out).mono ?_; rintro e w2 ⟨rfl, hb2⟩; have B2 := Lib.hid (bgo B1.out hb2); clear hb2 HLT)
    | (go_at_call 33; refine (HOP.out _ B2.out).mono ?_; rintro e w3 ⟨rfl, hb3⟩; have B3 := Lib.hid (bgo B2.out hb3); clear hb3 HOP; simp only [opnI]))
  go_ret2
  exact ⟨rfl, B3.out⟩
set_option maxRecDepth 100000 in
set_option maxHeartbeats 2000000 in
theorem rren_dup (hv : RdBg L u w) (hL : L.length ≤ 1000000) (hz : valB L = 0) (hn : nm.size ≤ maxLen) (ht : tn.size ≤ maxLen) (h1 : nameB (byt nm) = true) (h1t : nameB (byt tn) = true) (g2 : ¬ c < 1) (h3 : lateB L c = false) (i : Nat) (h4 : opnB L nm = some i) (hi : i < L.length) (j : Nat) (h5 : opnB L tn = some j) :
    Calls Tryz.prog 14 #[u, .string nm, .string tn, .int .i64 c] w fun e w' => e = .returned (.tuple #[.slice none 0 0, .int .i64 9]) ∧ Below w.heap.size w w' := by
  have HVAL := Lib.hid (rvalb_any L u w hv (by omega))
  obtain ⟨a, cap, rfl⟩ := hv.shape
  rw [hz] at HVAL
  have HNM := Lib.hid (fun w => risName_any nm w hn)
  have HTM := Lib.hid (fun w => risName_any tn w ht)
  have HLT := Lib.hid (fun (w' : World) (hb : Below w.heap.size w w') => rlate_any L _ c w' (hv.below hb) (by omega))
  have HOP := Lib.hid (fun (w' : World) (hb : Below w.heap.size w w') => ropen_any L _ nm w' (hv.below hb) (by omega))
  have HOT := Lib.hid (fun (w' : World) (hb : Below w.heap.size w w') => ropen_any L _ tn w' (hv.below hb) (by omega))
  rw [h1] at HNM
  rw [h1t] at HTM
  rw [h3] at HLT
  rw [h4] at HOP
  rw [h5] at HOT
  have HCL := Lib.hid (fun (w' : World) (hb : Below w.heap.size w w') => (hv.below hb).at_ hi)
  have hii : (i : Int) < (L.length : Int) := by omega
  have hi0 : ¬ (i : Int) < 0 := by omega
  clear hv
  go_enter Tryz.func14, Tryz.ntmps14
  go_wp2_with (first
    | (go_at_call 19; refine HVAL.out.mono ?_; rintro e w1 ⟨rfl, hb1⟩; have B1 := Lib.hid hb1; clear hb1 HVAL)
    | (go_at_call 30; refine (HNM.out _).mono ?_; rintro e w' ⟨rfl, rfl⟩; clear HNM)
    | (go_at_call 30; refine (HTM.out _).mono ?_; rintro e w' ⟨rfl, rfl⟩; clear HTM)
    | (go_at_call 31; refine (HLT.out _ B1.out).mono ?_; rintro e w2 ⟨rfl, hb2⟩; have B2 := Lib.hid (bgo B1.out hb2); clear hb2 HLT)
    | (go_at_call 33; refine (HOP.out _ B2.out).mono ?_; rintro e w3 ⟨rfl, hb3⟩; have B3 := Lib.hid (bgo B2.out hb3); clear hb3 HOP; simp only [opnI])
    | (go_at_call 33; refine (HOT.out _ B3.out).mono ?_; rintro e w4 ⟨rfl, hb4⟩; have B4 := Lib.hid (bgo B3.out hb4); clear hb4 HOT; simp only [opnI]))
  go_ret2
  exact ⟨rfl, B4.out⟩
set_option maxRecDepth 100000 in
set_option maxHeartbeats 2000000 in
theorem rren_ord (hv : RdBg L u w) (hL : L.length ≤ 1000000) (hz : valB L = 0) (hn : nm.size ≤ maxLen) (ht : tn.size ≤ maxLen) (h1 : nameB (byt nm) = true) (h1t : nameB (byt tn) = true) (g2 : ¬ c < 1) (h3 : lateB L c = false) (i : Nat) (h4 : opnB L nm = some i) (hi : i < L.length) (h5 : opnB L tn = none) (h6 : c ≤ (L.getD i Bg.z).k) :
    Calls Tryz.prog 14 #[u, .string nm, .string tn, .int .i64 c] w fun e w' => e = .returned (.tuple #[.slice none 0 0, .int .i64 19]) ∧ Below w.heap.size w w' := by
  have HVAL := Lib.hid (rvalb_any L u w hv (by omega))
  obtain ⟨a, cap, rfl⟩ := hv.shape
  rw [hz] at HVAL
  have HNM := Lib.hid (fun w => risName_any nm w hn)
  have HTM := Lib.hid (fun w => risName_any tn w ht)
  have HLT := Lib.hid (fun (w' : World) (hb : Below w.heap.size w w') => rlate_any L _ c w' (hv.below hb) (by omega))
  have HOP := Lib.hid (fun (w' : World) (hb : Below w.heap.size w w') => ropen_any L _ nm w' (hv.below hb) (by omega))
  have HOT := Lib.hid (fun (w' : World) (hb : Below w.heap.size w w') => ropen_any L _ tn w' (hv.below hb) (by omega))
  rw [h1] at HNM
  rw [h1t] at HTM
  rw [h3] at HLT
  rw [h4] at HOP
  rw [h5] at HOT
  have HCL := Lib.hid (fun (w' : World) (hb : Below w.heap.size w w') => (hv.below hb).at_ hi)
  have hii : (i : Int) < (L.length : Int) := by omega
  have hi0 : ¬ (i : Int) < 0 := by omega
  have HKK := Lib.hid h6
  clear hv h6
  go_enter Tryz.func14, Tryz.ntmps14
  go_upto_region 15 with (first
    | (go_at_call 19; refine HVAL.out.mono ?_; rintro e w1 ⟨rfl, hb1⟩; have B1 := Lib.hid hb1; clear hb1 HVAL)
    | (go_at_call 30; refine (HNM.out _).mono ?_; rintro e w' ⟨rfl, rfl⟩; clear HNM)
    | (go_at_call 30; refine (HTM.out _).mono ?_; rintro e w' ⟨rfl, rfl⟩; clear HTM)
    | (go_at_call 31; refine (HLT.out _ B1.out).mono ?_; rintro e w2 ⟨rfl, hb2⟩; have B2 := Lib.hid (bgo B1.out hb2); clear hb2 HLT)
    | (go_at_call 33; refine (HOP.out _ B2.out).mono ?_; rintro e w3 ⟨rfl, hb3⟩; have B3 := Lib.hid (bgo B2.out hb3); clear hb3 HOP; simp only [opnI])
    | (go_at_call 33; refine (HOT.out _ B3.out).mono ?_; rintro e w4 ⟨rfl, hb4⟩; have B4 := Lib.hid (bgo B3.out hb4); clear hb4 HOT; simp only [opnI]))
  obtain ⟨b, off, rfl, hbl, c0, c1, c2, c3⟩ := HCL.out _ B4.out
  obtain ⟨y, hy⟩ : ∃ y, L.getD i Bg.z = y := ⟨_, rfl⟩
  rw [hy] at c0 c1 c2 c3 HKK
  have HY := Lib.hid hy
  clear hy
  obtain ⟨ym, yr, yk, ys⟩ := y
  simp only at c0 c1 c2 c3
  have hck : c ≤ yk := HKK.out
  go_wp2
  go_ret2
  exact ⟨rfl, B4.out⟩
set_option maxRecDepth 100000 in
set_option maxHeartbeats 2000000 in
theorem rren_ok (hv : RdBg L u w) (hL : L.length ≤ 1000000) (hz : valB L = 0) (hn : nm.size ≤ maxLen) (ht : tn.size ≤ maxLen) (h1 : nameB (byt nm) = true) (h1t : nameB (byt tn) = true) (g2 : ¬ c < 1) (h3 : lateB L c = false) (i : Nat) (h4 : opnB L nm = some i) (hi : i < L.length) (h5 : opnB L tn = none) (h6 : ¬ c ≤ (L.getD i Bg.z).k) (hc : c ≤ 9223372036854775807) :
    Calls Tryz.prog 14 #[u, .string nm, .string tn, .int .i64 c] w fun e w' => ∃ v q, e = .returned (.tuple #[v, .int .i64 0]) ∧ OwnBg w.heap.size ((L.set i ⟨(L.getD i Bg.z).n, (L.getD i Bg.z).r, (L.getD i Bg.z).k, c⟩).take q ++ (⟨tn, (L.getD i Bg.z).r, c, 0⟩ : Bg) :: (L.set i ⟨(L.getD i Bg.z).n, (L.getD i Bg.z).r, (L.getD i Bg.z).k, c⟩).drop q) v w' ∧ PlcAt (L.set i ⟨(L.getD i Bg.z).n, (L.getD i Bg.z).r, (L.getD i Bg.z).k, c⟩) (⟨tn, (L.getD i Bg.z).r, c, 0⟩ : Bg) q ∧ Below w.heap.size w w' := by
  have HVAL := Lib.hid (rvalb_any L u w hv (by omega))
  obtain ⟨a, cap, rfl⟩ := hv.shape
  rw [hz] at HVAL
  have HNM := Lib.hid (fun w => risName_any nm w hn)
  have HTM := Lib.hid (fun w => risName_any tn w ht)
  have HLT := Lib.hid (fun (w' : World) (hb : Below w.heap.size w w') => rlate_any L _ c w' (hv.below hb) (by omega))
  have HOP := Lib.hid (fun (w' : World) (hb : Below w.heap.size w w') => ropen_any L _ nm w' (hv.below hb) (by omega))
  have HOT := Lib.hid (fun (w' : World) (hb : Below w.heap.size w w') => ropen_any L _ tn w' (hv.below hb) (by omega))
  rw [h1] at HNM
  rw [h1t] at HTM
  rw [h3] at HLT
  rw [h4] at HOP
  rw [h5] at HOT
  have HCL := Lib.hid (fun (w' : World) (hb : Below w.heap.size w w') => (hv.below hb).at_ hi)
  have hii : (i : Int) < (L.length : Int) := by omega
  have hi0 : ¬ (i : Int) < 0 := by omega
  have HRD := Lib.hid (fun (w' : World) (hb : Below w.heap.size w w') => hv.below hb)
  have HL := Lib.hid hL
  have HKK := Lib.hid h6
  have HC := Lib.hid hc
  have HCR := Lib.hid (show -9223372036854775808 ≤ c by omega)
  have HII := Lib.hid hi
  have HTN := Lib.hid ht
  clear hv h6
  go_enter Tryz.func14, Tryz.ntmps14
  go_upto_region 15 with (first
    | (go_at_call 19; refine HVAL.out.mono ?_; rintro e w1 ⟨rfl, hb1⟩; have B1 := Lib.hid hb1; clear hb1 HVAL)
    | (go_at_call 30; refine (HNM.out _).mono ?_; rintro e w' ⟨rfl, rfl⟩; clear HNM)
    | (go_at_call 30; refine (HTM.out _).mono ?_; rintro e w' ⟨rfl, rfl⟩; clear HTM)
    | (go_at_call 31; refine (HLT.out _ B1.out).mono ?_; rintro e w2 ⟨rfl, hb2⟩; have B2 := Lib.hid (bgo B1.out hb2); clear hb2 HLT)
    | (go_at_call 33; refine (HOP.out _ B2.out).mono ?_; rintro e w3 ⟨rfl, hb3⟩; have B3 := Lib.hid (bgo B2.out hb3); clear hb3 HOP; simp only [opnI])
    | (go_at_call 33; refine (HOT.out _ B3.out).mono ?_; rintro e w4 ⟨rfl, hb4⟩; have B4 := Lib.hid (bgo B3.out hb4); clear hb4 HOT; simp only [opnI]))
  obtain ⟨b, off, rfl, hbl, c0, c1, c2, c3⟩ := HCL.out _ B4.out
  obtain ⟨y, hy⟩ : ∃ y, L.getD i Bg.z = y := ⟨_, rfl⟩
  rw [hy] at c0 c1 c2 c3 HKK
  have HY := Lib.hid hy
  clear hy
  obtain ⟨ym, yr, yk, ys⟩ := y
  simp only at c0 c1 c2 c3
  have hck : ¬ c ≤ yk := by have h := HKK.out; simp only at h; omega
  have HOKY := Lib.hid ((HRD.out _ B4.out).1.at_ i)
  rw [HY.out] at HOKY
  go_upto_region 18 with (at_builtin; refine wp_appBg rfl _ _ 22 rfl w4.heap.size [] L _ _ rfl rfl (OwnBg.empty _ _) (HRD.out _ B4.out).src ?_ ?_ ?_; exact Nat.le_refl _; (have h7 := HL.out; simp <;> omega); intro v5 w5 ho5 hb5; have HO5 : Hid (OwnBg w4.heap.size L v5 w5) := Lib.hid ho5; have B5 := Lib.hid (bgo B4.out hb5); have C5 := Lib.hid hb5; clear ho5 hb5)
  obtain ⟨a5, c5, rfl⟩ := HO5.out.rd.shape
  obtain ⟨g5, rfl, hg5, -, -, -, -⟩ := HO5.out.block (by have := HII.out; omega)
  have HG5 := Lib.hid hg5
  have d3 := (HO5.out.cellsAt HII.out).2.2.2
  have f3 := HO5.out.frozen (i * 4 + 3)
  have HST := Lib.hid (HO5.out.storedT HII.out (c := c) ⟨HCR.out, HC.out⟩)
  rw [HY.out] at HST
  have BST := Lib.hid (bset B5.out g5 (i * 4 + 3) (.int .i64 c) (Nat.le_trans B4.out.size HG5.out))
  have e1 := ((bcell C5.out).1 b (off + i * 4 + 1) hbl).trans c1
  have HCC : Hid (∀ W, Below w5.heap.size w5 W → True) := Lib.hid (fun _ _ => trivial)
  have hbg : ¬ (b = g5) := by omega
  have hbg2 : ¬ (g5 = b) := by omega
  have HPL := Lib.hid (rplace_any (L.set i ⟨ym, yr, yk, c⟩) _ tn yr c 0 (w5.setCell ⟨g5, i * 4 + 3, none⟩ (.int .i64 c)) HST.out.rd (by have := HL.out; simp; omega) ⟨HTN.out, HOKY.out.2.1, ⟨HCR.out, HC.out⟩, by show (-9223372036854775808 : Int) ≤ 0 ∧ (0 : Int) ≤ 9223372036854775807; decide⟩)
  clear hg5 c0 c1 c2 c3
  go_wp2_with (go_at_call 32; refine HPL.out.mono ?_; rintro e w6 ⟨v6, q6, rfl, ho6, hp6, hb6⟩; have HO6 := Lib.hid ho6; have HP6 := Lib.hid hp6; have B6 := Lib.hid (bgo BST.out hb6); clear ho6 hp6 hb6)
  go_ret2
  rw [HY.out]
  exact ⟨_, _, rfl, HO6.out.mono BST.out.size, HP6.out, B6.out⟩
end
end Go.Proofs.YtpehbfghajlgmaaGreat
