/- isPast, findOpen, isBound, end, insert. -/
import Derived.Test.YtpehbfghajlgmaaDgA
import Derived.Test.YtpehbfghajlgmaaDgI
import Derived.Test.YtpehbfghajlgmaaDgB
namespace Go.Proofs.Ytpehbfghajlgmaa
open Go.RowKit
set_option linter.unusedVariables false
set_option linter.unusedSimpArgs false
set_option maxRecDepth 100000 in
set_option maxHeartbeats 1000000 in
theorem late1_any (c : Int) (x : Bg) (gf : Nat) (w : World) (hc : w.cell? ⟨gf, 0, none⟩ = some (.int .i64 c)) (hx : x.ok) :
    Calls Try.prog 47 #[.agg #[.string x.n, .int .i64 x.r, .int .i64 x.k, .int .i64 x.s], .pointer (some ⟨gf, 0, none⟩)] w fun e w' => e = .returned (.bool (decide (c < x.k) || decide (c < x.s))) ∧ Below w.heap.size w w' := by
  obtain ⟨n, r, k, s⟩ := x
  have hlt1 := World.block_lt_of_cell? w _ hc
  simp only at hlt1
  have HO := Lib.hid (fun w => isopen_any n r k s w)
  have HB0 := Lib.hid (b1 (a := w) (.cells #[.string n, .int .i64 r, .int .i64 k, .int .i64 s] 49))
  clear hx
  dsimp only
  by_cases h1 : c < k
  · skip
    have e : (decide (c < k) || decide (c < s)) = true := by simp [h1]
    rw [e]
    clear e
    go_enter Try.func47, Try.ntmps47
    go_wp2
    go_ret
    exact ⟨rfl, HB0.out⟩
  · skip
    have e : (decide (c < k) || decide (c < s)) = decide (c < s) := by simp [h1]
    rw [e]
    clear e
    go_enter Try.func47, Try.ntmps47
    go_wp2
    go_ret
    exact ⟨rfl, HB0.out⟩
theorem enters_late1 : ∀ args w, (callFunc 47 args).run Try.prog w = .ok (.enter 47 args) w := Go.Proofs.enters_of Try.func47 (by kernel_rfl) rfl
set_option maxRecDepth 100000 in
set_option maxHeartbeats 1000000 in
theorem fopn1_any (nm : ByteArray) (x : Bg) (gf : Nat) (w : World) (hc : w.cell? ⟨gf, 0, none⟩ = some (.string nm)) (hx : x.ok) :
    Calls Try.prog 49 #[.agg #[.string x.n, .int .i64 x.r, .int .i64 x.k, .int .i64 x.s], .pointer (some ⟨gf, 0, none⟩)] w fun e w' => e = .returned (.bool (decide (x.n = nm) && x.s == 0)) ∧ Below w.heap.size w w' := by
  obtain ⟨n, r, k, s⟩ := x
  have hlt1 := World.block_lt_of_cell? w _ hc
  simp only at hlt1
  have HO := Lib.hid (fun w => isopen_any n r k s w)
  have HB0 := Lib.hid (b1 (a := w) (.cells #[.string n, .int .i64 r, .int .i64 k, .int .i64 s] 49))
  clear hx
  dsimp only
  by_cases h1 : n = nm
  · subst h1
    have e : (decide (n = n) && s == 0) = (s == 0) := by simp
    rw [e]
    clear e
    go_enter Try.func49, Try.ntmps49
    go_wp2_with (go_at_call 36; refine (HO.out _).mono ?_; rintro e w1 ⟨rfl, hb⟩; have HB := Lib.hid (bgo HB0.out hb); clear hb)
    go_ret
    exact ⟨rfl, HB.out⟩
  · have h2 : (n.toList == nm.toList) = false := beq_eq_false_iff_ne.2 (fun h => h1 (toL_inj h))
    have e : (decide (n = nm) && s == 0) = false := by simp [h1]
    rw [e]
    clear e
    go_enter Try.func49, Try.ntmps49
    go_wp2_with (go_at_call 36; refine (HO.out _).mono ?_; rintro e w1 ⟨rfl, hb⟩; have HB := Lib.hid (bgo HB0.out hb); clear hb)
    go_ret
    exact ⟨rfl, HB0.out⟩
theorem enters_fopn1 : ∀ args w, (callFunc 49 args).run Try.prog w = .ok (.enter 49 args) w := Go.Proofs.enters_of Try.func49 (by kernel_rfl) rfl
set_option maxRecDepth 100000 in
set_option maxHeartbeats 1000000 in
theorem ibnd1_any (o : Int) (x : Bg) (gf : Nat) (w : World) (hc : w.cell? ⟨gf, 0, none⟩ = some (.int .i64 o)) (hx : x.ok) :
    Calls Try.prog 50 #[.agg #[.string x.n, .int .i64 x.r, .int .i64 x.k, .int .i64 x.s], .pointer (some ⟨gf, 0, none⟩)] w fun e w' => e = .returned (.bool (x.r == o && x.s == 0)) ∧ Below w.heap.size w w' := by
  obtain ⟨n, r, k, s⟩ := x
  have hlt1 := World.block_lt_of_cell? w _ hc
  simp only at hlt1
  have HO := Lib.hid (fun w => isopen_any n r k s w)
  have HB0 := Lib.hid (b1 (a := w) (.cells #[.string n, .int .i64 r, .int .i64 k, .int .i64 s] 49))
  clear hx
  dsimp only
  by_cases h1 : r = o
  · subst h1
    have e : (r == r && s == 0) = (s == 0) := by simp
    rw [e]
    clear e
    go_enter Try.func50, Try.ntmps50
    go_wp2_with (go_at_call 36; refine (HO.out _).mono ?_; rintro e w1 ⟨rfl, hb⟩; have HB := Lib.hid (bgo HB0.out hb); clear hb)
    go_ret
    exact ⟨rfl, HB.out⟩
  · have h2 : (r == o) = false := beq_eq_false_iff_ne.2 h1
    have e : (r == o && s == 0) = false := by simp [h1]
    rw [e]
    clear e
    go_enter Try.func50, Try.ntmps50
    go_wp2_with (go_at_call 36; refine (HO.out _).mono ?_; rintro e w1 ⟨rfl, hb⟩; have HB := Lib.hid (bgo HB0.out hb); clear hb)
    go_ret
    exact ⟨rfl, HB0.out⟩
theorem enters_ibnd1 : ∀ args w, (callFunc 50 args).run Try.prog w = .ok (.enter 50 args) w := Go.Proofs.enters_of Try.func50 (by kernel_rfl) rfl
set_option maxRecDepth 100000 in
theorem past_any (L : List Bg) (v : Value) (c : Int) (w : World) (hv : RdBg L v w) (hL : L.length ≤ 1000000) :
    Calls Try.prog 23 #[v, .int .i64 c] w fun e w' => e = .returned (.bool (lateB L c)) ∧ Below w.heap.size w w' := by
  have hv2 := hv.below (b1 (.cells #[.int .i64 c] 3))
  have hts : TellsB 47 (.pointer (some ⟨w.heap.size, 0, none⟩)) (fun x => decide (c < x.k) || decide (c < x.s)) (w.alloc (.cells #[.int .i64 c] 3)) :=
    ⟨enters_late1, fun w' hb x hx => late1_any _ x w.heap.size w' (((bcell hb).1 w.heap.size 0 (by simp)).trans (by go_simp)) hx⟩
  have HC := Lib.hid (hasBg_any _ _ _ L v _ hv2 (by omega) hts)
  obtain ⟨a, cap, rfl⟩ := hv.shape
  clear hv hv2 hts
  go_enter Try.func23, Try.ntmps23
  go_wp2_with (go_at_call 46; refine HC.out.mono ?_; rintro e w1 ⟨rfl, hb⟩; have HB := Lib.hid (bgo (b1 _) hb); clear hb)
  go_ret
  exact ⟨rfl, HB.out⟩
set_option maxRecDepth 100000 in
theorem fopen_any (L : List Bg) (v : Value) (nm : ByteArray) (w : World) (hv : RdBg L v w) (hL : L.length ≤ 1000000) :
    Calls Try.prog 24 #[v, .string nm] w fun e w' => e = .returned (.int .i64 (opnI (opnB L nm))) ∧ Below w.heap.size w w' := by
  have hv2 := hv.below (b1 (.cells #[.string nm] 9))
  have hts : TellsB 49 (.pointer (some ⟨w.heap.size, 0, none⟩)) (fun x => decide (x.n = nm) && x.s == 0) (w.alloc (.cells #[.string nm] 9)) :=
    ⟨enters_fopn1, fun w' hb x hx => fopn1_any _ x w.heap.size w' (((bcell hb).1 w.heap.size 0 (by simp)).trans (by go_simp)) hx⟩
  have HC := Lib.hid (idxBg_any _ _ _ L v _ hv2 (by omega) hts)
  obtain ⟨a, cap, rfl⟩ := hv.shape
  clear hv hv2 hts
  go_enter Try.func24, Try.ntmps24
  go_wp2_with (go_at_call 48; refine HC.out.mono ?_; rintro e w1 ⟨rfl, hb⟩; have HB := Lib.hid (bgo (b1 _) hb); clear hb)
  go_ret
  exact ⟨rfl, HB.out⟩
/-- An open binding of an object. -/
def bndO (L : List Bg) (o : Int) : Bool := L.any (fun x => x.r == o && x.s == 0)
set_option maxRecDepth 100000 in
theorem isbnd_any (L : List Bg) (v : Value) (o : Int) (w : World) (hv : RdBg L v w) (hL : L.length ≤ 1000000) :
    Calls Try.prog 25 #[v, .int .i64 o] w fun e w' => e = .returned (.bool (bndO L o)) ∧ Below w.heap.size w w' := by
  have hv2 := hv.below (b1 (.cells #[.int .i64 o] 3))
  have hts : TellsB 50 (.pointer (some ⟨w.heap.size, 0, none⟩)) (fun x => x.r == o && x.s == 0) (w.alloc (.cells #[.int .i64 o] 3)) :=
    ⟨enters_ibnd1, fun w' hb x hx => ibnd1_any _ x w.heap.size w' (((bcell hb).1 w.heap.size 0 (by simp)).trans (by go_simp)) hx⟩
  have HC := Lib.hid (hasBg_any _ _ _ L v _ hv2 (by omega) hts)
  obtain ⟨a, cap, rfl⟩ := hv.shape
  clear hv hv2 hts
  go_enter Try.func25, Try.ntmps25
  go_wp2_with (go_at_call 46; refine HC.out.mono ?_; rintro e w1 ⟨rfl, hb⟩; have HB := Lib.hid (bgo (b1 _) hb); clear hb)
  go_ret
  exact ⟨rfl, HB.out⟩
set_option maxRecDepth 100000 in
set_option maxHeartbeats 1000000 in
theorem end_any (L : List Bg) (v : Value) (i : Nat) (c : Int) (w : World) (hv : RdBg L v w) (hL : L.length ≤ 1000000) (hi : i < L.length) (hc : -9223372036854775808 ≤ c ∧ c ≤ 9223372036854775807) :
    Calls Try.prog 31 #[v, .int .i64 (i : Int), .int .i64 c] w fun e w' => ∃ v', e = .returned v' ∧ OwnBg w.heap.size (L.set i ⟨(L.getD i Bg.z).n, (L.getD i Bg.z).r, (L.getD i Bg.z).k, c⟩) v' w' ∧ Below w.heap.size w w' := by
  have HCL := Lib.hid (cloneBg_any L v w hv hL)
  obtain ⟨a0, cap0, rfl⟩ := hv.shape
  have HI := Lib.hid hi
  have HC := Lib.hid hc
  have hi2 : (i : Int) < (L.length : Int) := by omega
  clear hv hc
  go_enter Try.func31, Try.ntmps31
  go_upto_region 2 with (go_at_call 40; refine HCL.out.mono ?_; rintro e w3 ⟨v3, rfl, ho3, hb3⟩; have HO3 := Lib.hid ho3; have B3 := Lib.hid hb3; clear ho3 hb3)
  have h3 := HO3.out.2.2
  rcases h3 with ⟨-, h3⟩ | ⟨g, c3, cur, rfl, hg3, -, h31, h32, -, -⟩
  · have := HI.out
    omega
  have hfro := HO3.out.frozen (i * 4 + 3)
  have hcell := (HO3.out.cellsAt HI.out).2.2.2
  have HST := Lib.hid (HO3.out.storedT HI.out (c := c) HC.out)
  have HG3 : Hid (w.heap.size ≤ g) := Lib.hid hg3
  clear h31 h32 hg3
  go_wp2
  go_ret
  exact ⟨_, rfl, HST.out, bset B3.out _ _ _ HG3.out⟩
/-- What insert answers. -/
def InsPost (L : List Bg) (x : Bg) (w : World) (e : Ending) (w' : World) : Prop := ∃ v' p, e = .returned v' ∧ OwnBg w.heap.size (L.take p ++ [x] ++ L.drop p) v' w' ∧ CutB L x p p ∧ Below w.heap.size w w'
set_option maxRecDepth 100000 in
set_option maxHeartbeats 2000000 in
theorem insert_any (L : List Bg) (n : ByteArray) (r k s : Int) (v : Value) (w : World) (hv : RdBg L v w) (ha : AscB L) (hL : L.length ≤ 1000000) (hx : Bg.ok ⟨n, r, k, s⟩) :
    Calls Try.prog 26 #[v, .agg #[.string n, .int .i64 r, .int .i64 k, .int .i64 s]] w fun e w' => InsPost L ⟨n, r, k, s⟩ w e w' := by
  have HB1 := Lib.hid (b1 (a := w) (.cells #[.string n, .int .i64 r, .int .i64 k, .int .i64 s] 49))
  have HBS := Lib.hid (bsB_any L ⟨n, r, k, s⟩ v _ (hv.below HB1.out) ha hL)
  have HV := Lib.hid hv
  have HX := Lib.hid hx
  have HBOX := Lib.hid (fun (w3 : World) (h3 : Below (w.alloc (.cells #[.string n, .int .i64 r, .int .i64 k, .int .i64 s] 49)).heap.size (w.alloc (.cells #[.string n, .int .i64 r, .int .i64 k, .int .i64 s] 49)) w3) =>
    show w3.cell? ⟨w.heap.size, 0, none⟩ = some (.string n) ∧ w3.cell? ⟨w.heap.size, 1, none⟩ = some (.int .i64 r) ∧ w3.cell? ⟨w.heap.size, 2, none⟩ = some (.int .i64 k) ∧ w3.cell? ⟨w.heap.size, 3, none⟩ = some (.int .i64 s) from
    ⟨((bcell h3).1 w.heap.size 0 (by simp)).trans (by go_simp), ((bcell h3).1 w.heap.size 1 (by simp)).trans (by go_simp), ((bcell h3).1 w.heap.size 2 (by simp)).trans (by go_simp), ((bcell h3).1 w.heap.size 3 (by simp)).trans (by go_simp)⟩)
  have HIN := Lib.hid (fun (W w3 : World) (p vb : Nat) (v3 : Value) (ho : OwnBg W.heap.size L v3 w3) (hu : OwnBg 0 [⟨n, r, k, s⟩] (.slice (some ⟨vb, 0, none⟩) 1 1) w3) (hne : v3.ownBlock ≠ some vb) (hp : p ≤ L.length) (hb : W.heap.size ≤ w3.heap.size) => insBg_any L ⟨n, r, k, s⟩ W.heap.size vb p v3 w3 ho hu hne hp hb hL)
  obtain ⟨a0, cap0, rfl⟩ := hv.shape
  clear hv ha hx
  go_enter Try.func26, Try.ntmps26
  go_upto_region 2 with (go_at_call 51; refine HBS.out.mono ?_; rintro e w2 ⟨p, f, rfl, hc, hb⟩; have HC := Lib.hid hc; obtain ⟨x0, x1, x2, x3⟩ := HBOX.out w2 hb; have B2 := Lib.hid (bgo HB1.out hb); clear hb hc)
  have HCA := Lib.hid (cloneBg_any L _ w2.drew (HV.out.below B2.out.drew) hL)
  have HCB := Lib.hid (cloneBg_any L _ (w2.alloc (.cells #[.string n, .int .i64 r, .int .i64 k, .int .i64 s] 49)).drew (HV.out.below (bal B2.out _).drew) hL)
  have HD0 : Hid (∀ w3, Below w2.drew.heap.size w2.drew w3 → Below w2.heap.size w2 w3) := Lib.hid (fun w3 h => (Below.refl w2.heap.size w2).drew.trans h)
  have HD1 : Hid (∀ w3, Below (w2.alloc (.cells #[.string n, .int .i64 r, .int .i64 k, .int .i64 s] 49)).drew.heap.size (w2.alloc (.cells #[.string n, .int .i64 r, .int .i64 k, .int .i64 s] 49)).drew w3 → Below (w2.alloc (.cells #[.string n, .int .i64 r, .int .i64 k, .int .i64 s] 49)).heap.size (w2.alloc (.cells #[.string n, .int .i64 r, .int .i64 k, .int .i64 s] 49)) w3) := Lib.hid (fun w3 h => (Below.refl _ _).drew.trans h)
  have hbx : w.heap.size < w2.heap.size := World.block_lt_of_cell? w2 _ x0
  have HXA : Hid (∀ w3, Below w2.heap.size w2 w3 → w3.cell? ⟨w.heap.size, 0, none⟩ = some (.string n) ∧ w3.cell? ⟨w.heap.size, 1, none⟩ = some (.int .i64 r) ∧ w3.cell? ⟨w.heap.size, 2, none⟩ = some (.int .i64 k) ∧ w3.cell? ⟨w.heap.size, 3, none⟩ = some (.int .i64 s)) := Lib.hid (fun w3 h => ⟨((bcell h).1 _ 0 hbx).trans x0, ((bcell h).1 _ 1 hbx).trans x1, ((bcell h).1 _ 2 hbx).trans x2, ((bcell h).1 _ 3 hbx).trans x3⟩)
  go_region_law (go_simp; first
    | (go_at_call 40; (with_reducible refine HCA.out.mono ?_); rintro e w3 ⟨v3, rfl, ho, hb⟩; have HOA := Lib.hid ho; have B3A := Lib.hid (HD0.out _ hb); obtain ⟨x0, x1, x2, x3⟩ := HXA.out w3 (HD0.out _ hb); have HNA : Hid (v3.ownBlock ≠ some w3.heap.size) := Lib.hid (fun h => absurd (World.ownsRow.lt ho.2 _ h).2 (Nat.lt_irrefl _)); clear ho hb)
    | (go_at_call 40; (with_reducible refine HCB.out.mono ?_); rintro e w3 ⟨v3, rfl, ho, hb⟩; have HOB := Lib.hid ho; have hb1 := HD1.out _ hb; have B3B := Lib.hid (bgo (b1 _) hb1); obtain ⟨x0, x1, x2, x3⟩ := HXA.out w3 B3B.out; have HNB : Hid (v3.ownBlock ≠ some w2.heap.size) := Lib.hid (fun h => by have := (World.ownsRow.lt ho.2 _ h).1; simp at this; omega); have HUB : Hid (OwnBg 0 [⟨n, r, k, s⟩] (.slice (some ⟨w2.heap.size, 0, none⟩) 1 1) w3) := Lib.hid (((OwnBg.one HX.out w2).below hb1).mono (Nat.zero_le _)); clear ho hb hb1)
    | (go_at_call 56; refine (HIN.out w2 _ p _ _ (HOA.out.alloc _) ((OwnBg.one HX.out w3).mono (Nat.zero_le _)) HNA.out HC.out.2.1 (bal B3A.out _).size).mono ?_; rintro e w4 ⟨v4, rfl, ho, hb⟩; have HO4 := Lib.hid ho; have B4 := Lib.hid (bgo B2.out ((bal B3A.out _).trans hb)); clear ho hb)
    | (go_at_call 56; refine (HIN.out w2 _ p _ _ (HOB.out.mono (by simp)) HUB.out HNB.out HC.out.2.1 B3B.out.size).mono ?_; rintro e w4 ⟨v4, rfl, ho, hb⟩; have HO4 := Lib.hid ho; have B4 := Lib.hid (bgo B2.out (B3B.out.trans hb)); clear ho hb))
  all_goals
    go_wp2
    go_ret
    exact ⟨_, p, rfl, HO4.out.mono B2.out.size, HC.out, by first | exact B4.out | exact B4.out.drew⟩
end Go.Proofs.Ytpehbfghajlgmaa
