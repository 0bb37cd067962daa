/- The program's Remove. -/
import Derived.Test.YtakickggpfbafaaChD
import Derived.Test.YtakickggpfbafaaChA
import Derived.Deep.RegionLaw
namespace Go.Proofs.Ytakickggpfbafaa
open Go.RowKit
set_option linter.unusedVariables false
set_option linter.unusedSimpArgs false
theorem results_tct {fn : Func} {p u z : Tmp} {ty : TypeId} (h : fn.results = #[.tmp u, .cell p ty, .tmp z]) (tmps : Array Value) (P : Program) (w : World) :
    (results fn tmps).run P w =
      ((asAddr (tmps.getD p undef)).run P w).andThen fun a w₁ => ((loadVar ty a).run P w₁).andThen fun v w₂ => .ok (.tuple #[tmps.getD u undef, v, tmps.getD z undef]) w₂ := by
  simp only [results, h]
  simp [Sem.run_bind, Result.andThen]
theorem ret_tct {P : Program} {a : Act} {w : World} {fn : Func} {R : Ending → World → Prop} {p u z : Tmp} {T : TypeId} (h : fn.results = #[.tmp u, .cell p T, .tmp z]) {g : Nat} {A : Array Value} {x y : Value} (hp : a.tmps.getD p undef = .pointer (some ⟨g, 0, none⟩)) (hx : a.tmps.getD u undef = x) (hy : a.tmps.getD z undef = y) (hd : a.defers = []) (hc : RowAt g A w) {d : TypeDesc} (hu : P.underlying T = some d) (hr : d.isRow = true) (hi : (P.info? T).map (·.size) = some A.size) (hR : R (.returned (.tuple #[x, .agg A, y])) w) : bodyPost P fn R .ret a w := by
  obtain ⟨t, ht⟩ := hc
  refine bodyPost_ret (v := .tuple #[x, .agg A, y]) ?_ hd hR
  have hl := run_loadVar_row (P := P) w g t T A (0, 0) d ht hu (by cases d <;> simp_all) hi
  rw [results_tct h, hp, hx, hy]
  simp only [asAddr, Sem.run_pure, Result.andThen_ok, hl]
theorem VmAt.keepc {B b : Nat} (hb : b < B) (o : Nat) (u : Value) : ∀ {M : List Vs} {L : List Vn} {w : World}, VmAt B M L w → VmAt B M L (w.setCell ⟨b, o, none⟩ u)
  | [], [], _, _ => trivial
  | x :: M, y :: L, w, h => ⟨⟨h.1.1, h.1.2.1, h.1.2.2.1, h.1.2.2.2.keep hb o u⟩, h.2.keepc hb o u⟩
  | [], y :: L, w, h => h.elim
  | x :: M, [], w, h => h.elim
set_option maxRecDepth 100000 in
set_option maxHeartbeats 4000000 in
theorem prem_any (M : List Vs) (L : List Vn) (u : Value) (c : Int) (w : World) (hv : RdVs M u w) (hm : VmAt 0 M L w) (hL : L.length ≤ 1000) (hpl : ∀ x ∈ L, x.p.length ≤ 1000000) :
    Calls Try.prog 20 #[u, .int .i64 c] w fun e w' => OutX w.heap.size L c w e w' := by
  have hml := hm.len
  have hv2 := hv.below (b2 (.cells #[.int .i64 c] 3) (.cells #[.int .i64 0, .int .i64 0, .int .i64 0, .slice none 0 0] 33))
  have hts : TellsV 31 (.pointer (some ⟨w.heap.size, 0, none⟩)) (fun x => x.n == c) ((w.alloc (.cells #[.int .i64 c] 3)).alloc (.cells #[.int .i64 0, .int .i64 0, .int .i64 0, .slice none 0 0] 33)) :=
    ⟨enters_crem1, fun w' hb x hx => crem1_any c x w.heap.size w' (((bcell hb).1 w.heap.size 0 (by simp; omega)).trans (by go_simp)) hx⟩
  have hid := idxVs_any _ _ _ M u _ hv2 (by omega) hts
  rw [hm.rem c] at hid
  have HC := Lib.hid hid
  have HSA := Lib.hid (fun (w' : World) (hb : Below w.heap.size w w') => sepall_any M L u w' (hv.below hb) (hm.below hb) hL hpl)
  have HL := Lib.hid hL
  obtain ⟨a, cap, rfl⟩ := hv.shape
  have HK := Lib.hid (show ∀ o, remK L c = o → o = remK L c from fun o h => h.symm)
  have HML := Lib.hid hml
  rw [hml] at HSA HC ⊢
  clear hv hv2 hts hid hm hpl hml
  cases hk : remK L c with
  | none =>
    rw [hk] at HC
    have HKK := Lib.hid hk
    clear hk
    go_enter Try.func20, Try.ntmps20
    go_wp2_with (go_at_call 24; refine HC.out.mono ?_; rintro e w1 ⟨rfl, hb⟩; have HB := Lib.hid (bgo (b2 _ _) hb); have HR : Hid (RowAt (w.heap.size + 1) #[.int .i64 0, .int .i64 0, .int .i64 0, .slice none 0 0] w1) := Lib.hid ((RowAt.new1 w (.cells #[.int .i64 c] 3) #[.int .i64 0, .int .i64 0, .int .i64 0, .slice none 0 0] 33).go hb); have d0 := HR.out.cell (j := 0) rfl; have f0 := HR.out.open_ 0; have d1 := HR.out.cell (j := 1) rfl; have f1 := HR.out.open_ 1; have d2 := HR.out.cell (j := 2) rfl; have f2 := HR.out.open_ 2; have d3 := HR.out.cell (j := 3) rfl; have f3 := HR.out.open_ 3; clear hb; simp only [firI])
    exact ret_tct rfl rfl rfl rfl rfl (HR.out.set4 _ _ _ _) Try.underlying33 rfl inf_vs (OutX.miss HKK.out rfl (bset (bset (bset (bset HB.out _ _ _ (by omega)) _ _ _ (by omega)) _ _ _ (by omega)) _ _ _ (by omega)))
  | some i =>
    rw [hk] at HC
    obtain ⟨hi, -, -⟩ := remK_some hk
    have HKK := Lib.hid hk
    have HI := Lib.hid hi
    have hi1 : (i : Int) < (L.length : Int) := by omega
    have hi2 : IntKind.i64.wrap ((i : Int) + 1) = (i : Int) + 1 := by rw [IntKind.wrap_i64]; omega
    have hi3 : wrap64 ((i : Int) + 1) = (i : Int) + 1 := by unfold wrap64; omega
    have hi4 : ¬ (i : Int) < 0 := by omega
    clear hk hi
    go_enter Try.func20, Try.ntmps20
    go_upto_region 5 with (first
      | (go_at_call 24; refine HC.out.mono ?_; rintro e w1 ⟨rfl, hb⟩; have HB := Lib.hid (bgo (b2 _ _) hb); have HR : Hid (RowAt (w.heap.size + 1) #[.int .i64 0, .int .i64 0, .int .i64 0, .slice none 0 0] w1) := Lib.hid ((RowAt.new1 w (.cells #[.int .i64 c] 3) #[.int .i64 0, .int .i64 0, .int .i64 0, .slice none 0 0] 33).go hb); have HS1 : Hid (w.heap.size + 1 < w1.heap.size) := Lib.hid HR.out.lt; clear hb; simp only [firI])
      | (go_at_call 28; refine (HSA.out _ HB.out).mono ?_; rintro e w3 ⟨v3, M3, rfl, ho3, hm3, hb3⟩; obtain ⟨a3, c3', rfl⟩ := ho3.rd.shape; have HO3 := Lib.hid ho3; have HM3 := Lib.hid hm3; have C3 := Lib.hid hb3; have B3 := Lib.hid (bgo HB.out hb3); have HR3 := Lib.hid (HR.out.go hb3); clear ho3 hm3 hb3))
    have hml3 := HM3.out.len
    obtain ⟨g, rfl, hg1, hg2, -, -, -⟩ := HO3.out.block (by have := HI.out; omega)
    have HG := Lib.hid hg1
    have HG2 := Lib.hid hg2
    have hcs := HO3.out.cellsAt (j := i) (by have := HI.out; omega)
    have hat := HM3.out.at_ HI.out
    have HOKX := Lib.hid (HO3.out.1.at_ i)
    generalize hx : M3.getD i Vs.z = x at *
    generalize hy : L.getD i Vn.z = y at *
    obtain ⟨n, r, k, s⟩ := x
    obtain ⟨yn, yr, yk, p⟩ := y
    obtain ⟨e1, e2, e3, hown⟩ := hat
    have e1 : n = yn := e1
    have e2 : r = yr := e2
    have e3 : k = yk := e3
    subst e1 e2 e3
    have hown : OwnI w1.heap.size p s w3 := hown
    obtain ⟨sa, sc, rfl⟩ := hown.rd.shape
    obtain ⟨c0, c1, c2, c3⟩ := hcs
    have c0 : w3.cell? ⟨g, i * 4, none⟩ = some (.int .i64 n) := c0
    have c1 : w3.cell? ⟨g, i * 4 + 1, none⟩ = some (.int .i64 r) := c1
    have c2 : w3.cell? ⟨g, i * 4 + 2, none⟩ = some (.int .i64 k) := c2
    have c3 : w3.cell? ⟨g, i * 4 + 3, none⟩ = some (.slice sa p.length sc) := c3
    have HOW := Lib.hid hown
    have HY := Lib.hid hy
    rw [hml3]
    go_upto_region 6 with fail
    have B4 := Lib.hid (bal B3.out (.cells #[.int .i64 n, .int .i64 r, .int .i64 k, .slice sa p.length sc] 33))
    have C4 := Lib.hid (bal C3.out (.cells #[.int .i64 n, .int .i64 r, .int .i64 k, .slice sa p.length sc] 33))
    have R9 := Lib.hid (RowAt.new w3 #[.int .i64 n, .int .i64 r, .int .i64 k, .slice sa p.length sc] 33)
    have R5 := Lib.hid (HR3.out.go (b1 (.cells #[.int .i64 n, .int .i64 r, .int .i64 k, .slice sa p.length sc] 33)))
    have HO4 := Lib.hid (HO3.out.alloc (.cells #[.int .i64 n, .int .i64 r, .int .i64 k, .slice sa p.length sc] 33))
    have HM4 := Lib.hid (HM3.out.below (b1 (.cells #[.int .i64 n, .int .i64 r, .int .i64 k, .slice sa p.length sc] 33)))
    have HW4 := Lib.hid (HOW.out.alloc (.cells #[.int .i64 n, .int .i64 r, .int .i64 k, .slice sa p.length sc] 33))
    have hne9 : w3.heap.size ≠ g := by omega
    have HNE5 : Hid (w.heap.size + 1 ≠ g) := Lib.hid (by have := HS1.out; omega)
    have HNE9 := Lib.hid hne9
    have hg3 : g < w3.heap.size := hg2
    rw [hml3] at HO4
    clear HOW HM3 HO3 c0 c1 c2 c3 hown hx hy B3 C3 HR3 hne9
    generalize hw4 : w3.alloc (.cells #[.int .i64 n, .int .i64 r, .int .i64 k, .slice sa p.length sc] 33) = w4 at *
    have c0 := R9.out.cell (j := 0) rfl
    have c1 := R9.out.cell (j := 1) rfl
    have c2 := R9.out.cell (j := 2) rfl
    have c3 := R9.out.cell (j := 3) rfl
    have d0 := R5.out.cell (j := 0) rfl
    have f0 := R5.out.open_ 0
    have d1 := R5.out.cell (j := 1) rfl
    have f1 := R5.out.open_ 1
    have d2 := R5.out.cell (j := 2) rfl
    have f2 := R5.out.open_ 2
    have d3 := R5.out.cell (j := 3) rfl
    have f3 := R5.out.open_ 3
    have HD := Lib.hid (fun (w' : World) (ho : OwnVs w1.heap.size M3 (.slice (some ⟨g, 0, none⟩) L.length c3') w') (hsz : w4.heap.size ≤ w'.heap.size) => delVs_any M3 w1.heap.size g i c3' w' (by rw [hml3]; exact ho) (by rw [hml3]; exact HI.out) (Nat.le_trans C4.out.size hsz) (by have := HL.out; omega))
    rw [hml3] at HD
    have HO4D : Hid (OwnVs w1.heap.size M3 (.slice (some ⟨g, 0, none⟩) L.length c3') w4.drew) := Lib.hid HO4.out
    clear hg1 hg2
    go_region_law ((try go_simp); go_at_call 32; (with_reducible refine (HD.out _ (by first | exact HO4D.out | exact HO4.out) (by first | exact Nat.le_refl _ | simp)).mono ?_); rintro e w5 ⟨v5, rfl, ho5, hb5, hk5, hg5⟩; have Q9 : Hid (RowAt w3.heap.size #[.int .i64 n, .int .i64 r, .int .i64 k, .slice sa p.length sc] w5) := Lib.hid (R9.out.keep (hg5 _ R9.out.lt HNE9.out)); have Q5 : Hid (RowAt (w.heap.size + 1) #[.int .i64 0, .int .i64 0, .int .i64 0, .slice none 0 0] w5) := Lib.hid (R5.out.keep (hg5 _ R5.out.lt HNE5.out)); have HO5 := Lib.hid ho5; have B5 : Hid (Below w.heap.size w w5) := Lib.hid (B4.out.trans (Below.mono (by first | exact hb5 | exact (Below.refl _ _).drew.trans hb5) HB.out.size)); have HM5 : Hid (VmAt w1.heap.size (M3.take i ++ M3.drop (i + 1)) (L.take i ++ L.drop (i + 1)) w5) := Lib.hid (((HM4.out.kpt hk5).take i).app ((HM4.out.kpt hk5).drop (i + 1))); have HW5 : Hid (OwnI w1.heap.size p (.slice sa p.length sc) w5) := Lib.hid (HW4.out.kpt hk5); clear ho5 hb5 hk5 hg5 c0 c1 c2 c3 d0 d1 d2 d3 f0 f1 f2 f3; have c0 := Q9.out.cell (j := 0) rfl; have c1 := Q9.out.cell (j := 1) rfl; have c2 := Q9.out.cell (j := 2) rfl; have c3 := Q9.out.cell (j := 3) rfl; have d0 := Q5.out.cell (j := 0) rfl; have f0 := Q5.out.open_ 0; have d1 := Q5.out.cell (j := 1) rfl; have f1 := Q5.out.open_ 1; have d2 := Q5.out.cell (j := 2) rfl; have f2 := Q5.out.open_ 2; have d3 := Q5.out.cell (j := 3) rfl; have f3 := Q5.out.open_ 3)
    all_goals
      go_wp2
      refine ret_tct rfl rfl rfl rfl rfl (Q5.out.set4 _ _ _ _) Try.underlying33 rfl inf_vs ?_
      exact OutX.ok HKK.out HY.out rfl (((((HO5.out.keep HS1.out _ _).keep HS1.out _ _).keep HS1.out _ _).keep HS1.out _ _).mono HB.out.size) (((((HM5.out.keepc HS1.out _ _).keepc HS1.out _ _).keepc HS1.out _ _).keepc HS1.out _ _).mono HB.out.size) (((((HW5.out.keep HS1.out _ _).keep HS1.out _ _).keep HS1.out _ _).keep HS1.out _ _).mono HB.out.size) (bset (bset (bset (bset B5.out _ _ _ (by omega)) _ _ _ (by omega)) _ _ _ (by omega)) _ _ _ (by omega))
end Go.Proofs.Ytakickggpfbafaa
