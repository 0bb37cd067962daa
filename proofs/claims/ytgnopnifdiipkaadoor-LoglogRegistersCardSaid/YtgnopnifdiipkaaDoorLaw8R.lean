/- The walk of the law LoglogRegisters. -/
import Derived.Test.YtgnopnifdiipkaaDoorLPPos
import Derived.Test.YtgnopnifdiipkaaDoorLPIns
import Derived.Test.YtgnopnifdiipkaaDoorLlPure
import Derived.Test.YtgnopnifdiipkaaDoorKnown8
import Derived.Test.YtgnopnifdiipkaaDoorSkL
namespace Go.Proofs.YtgnopnifdiipkaaDoor
open Go.RowKit
set_option linter.unusedVariables false
set_option linter.unusedSimpArgs false
/-- A sketch in a struct, and a row of the call's own with the same numbers. -/
def RgS (W : World) (g bw M : Nat) (c : LL) (w : World) : Prop :=
  Below W.heap.size W w ∧ W.heap.size ≤ g ∧ g < bw ∧ bw < w.heap.size ∧ (∃ a n cap, LSt g c.P c.x (.slice a n cap) w ∧ OffI g c.L (.slice a n cap) w ∧ OffI bw c.L (.slice a n cap) w) ∧ OwnI (g + 1) c.L (.slice (some ⟨bw, 0, none⟩) M M) w
theorem rg_mid {W : World} {g bw M : Nat} {c d : LL} {w w7 : World} (B : Below W.heap.size W w) (hg : W.heap.size ≤ g) (hgb : g < bw) (hbs : bw < w.heap.size) {P x : Int} {v : Value} (C : LSt g P x v w) {a : Option Addr} {n cap : Nat} (O : OffI g d.L (.slice a n cap) w) (Q : OffI bw d.L (.slice a n cap) w) (R : OwnI (g + 1) c.L (.slice (some ⟨bw, 0, none⟩) M M) w)
    (hb : Below (((w.setCell ⟨g, 0, none⟩ (.int .i64 d.P)).setCell ⟨g, 1, none⟩ (.int .u64 d.x)).setCell ⟨g, 2, none⟩ (.slice a n cap)).heap.size (((w.setCell ⟨g, 0, none⟩ (.int .i64 d.P)).setCell ⟨g, 1, none⟩ (.int .u64 d.x)).setCell ⟨g, 2, none⟩ (.slice a n cap)) w7) :
    Below W.heap.size W w7 ∧ bw < w7.heap.size ∧ LSt g d.P d.x (.slice a n cap) w7 ∧ OffI g d.L (.slice a n cap) w7 ∧ OffI bw d.L (.slice a n cap) w7 ∧ OwnI (g + 1) c.L (.slice (some ⟨bw, 0, none⟩) M M) w7 := by
  have ho := Oth.set3 g w (.int .i64 d.P) (.int .u64 d.x) (.slice a n cap)
  have hz := ho.1.size
  have C3 := C.set3 d.P d.x a n cap
  have O3 := O.oth ho
  have Q3 : OffI bw d.L (.slice a n cap) (((w.setCell ⟨g, 0, none⟩ (.int .i64 d.P)).setCell ⟨g, 1, none⟩ (.int .u64 d.x)).setCell ⟨g, 2, none⟩ (.slice a n cap)) := ⟨O3.rd, Q.2⟩
  have R3 := R.keep3 (Nat.lt_succ_self g) (.int .i64 d.P) (.int .u64 d.x) (.slice a n cap)
  have B3 : Below W.heap.size W (((w.setCell ⟨g, 0, none⟩ (.int .i64 d.P)).setCell ⟨g, 1, none⟩ (.int .u64 d.x)).setCell ⟨g, 2, none⟩ (.slice a n cap)) := B.trans (ho.1.mono hg)
  exact ⟨bgo B3 hb, Nat.lt_of_lt_of_le hbs (Nat.le_trans hz hb.size), C3.below hb (Nat.lt_of_lt_of_le C.size hz), O3.below hb, Q3.below hb, R3.below hb⟩
theorem rg_end {W : World} {g bw M : Nat} {c d : LL} {w : World} (B : Below W.heap.size W w) (hg : W.heap.size ≤ g) (hgb : g < bw) (hbs : bw < w.heap.size) {a : Option Addr} {n cap : Nat} (C : LSt g d.P d.x (.slice a n cap) w) (O : OffI g d.L (.slice a n cap) w) (Q : OffI bw d.L (.slice a n cap) w) (R : OwnI (g + 1) c.L (.slice (some ⟨bw, 0, none⟩) M M) w) (hp : 0 < c.L.length)
    (i : Nat) (y : Int) (hy : -9223372036854775808 ≤ y ∧ y ≤ 9223372036854775807) (hd : d.L = c.L.set i y) : RgS W g bw M d (w.setCell ⟨bw, i, none⟩ (.int .i64 y)) := by
  have ho : Oth bw w (w.setCell ⟨bw, i, none⟩ (.int .i64 y)) := ⟨(Below.refl bw w).setCell (p := ⟨bw, i, none⟩) (Nat.le_refl _) _, fun b hb => Below.heap_setCell w ⟨bw, i, none⟩ _ _ hb⟩
  obtain ⟨b', he, _, _, _, hst⟩ := R.cells hp
  obtain rfl : bw = b' := by simpa using he
  have Q2 := Q.oth ho
  refine ⟨B.trans (ho.1.mono (by omega)), hg, hgb, Nat.lt_of_lt_of_le hbs ho.1.size, ⟨a, n, cap, C.far (by omega) _ _, ⟨Q2.rd, O.2⟩, Q2⟩, ?_⟩
  rw [hd]
  exact hst i y hy
theorem keyS_ok (n : Int) : keyB (byt (keyS n)) = true := by
  have := keyS_bd n
  unfold keyB
  rw [byt_len]
  simp
  omega
/-- An item in a struct. -/
def Itm (g : Nat) (K : ByteArray) (y : Int) (w : World) : Prop := w.cell? ⟨g, 0, none⟩ = some (.string K) ∧ w.cell? ⟨g, 1, none⟩ = some (.int .i64 y) ∧ g < w.heap.size
theorem Itm.new (w : World) (K : ByteArray) (y : Int) (t : TypeId) : Itm w.heap.size K y (w.alloc (.cells #[.string K, .int .i64 y] t)) := ⟨by go_simp, by go_simp, by simp⟩
theorem Itm.below {g : Nat} {K : ByteArray} {y : Int} {w w' : World} (h : Itm g K y w) (hb : Below w.heap.size w w') : Itm g K y w' :=
  ⟨(hb.cell (p := ⟨g, 0, none⟩) h.2.2).trans h.1, (hb.cell (p := ⟨g, 1, none⟩) h.2.2).trans h.2.1, Nat.lt_of_lt_of_le h.2.2 hb.size⟩
set_option maxRecDepth 100000 in
set_option maxHeartbeats 4000000 in
theorem loglogRegisters_walk (a s : Int) (al : Option Addr) (ln cap : Nat) (z : List Int) (W : World) (wa : (Lit.int .i64 a).wf = true) (ws : (Lit.int .i64 s).wf = true) (w0 : InRow .i64 W al ln cap z) (ht : TabF W) :
    Calls Tryd.prog 9 #[.int .i64 a, .int .i64 s, .slice al ln cap] W fun e w' => e = .returned (.bool true) ∧ Below W.heap.size W w' := by
  have HT := Lib.hid ht
  clear ht
  obtain ⟨s0, s1⟩ := wf_bd ws
  have hx := wrap_bd s
  have HR := Lib.hid (inRow_rdJ w0)
  have hlen : (z.take ln).length = ln := by obtain ⟨h1, _⟩ := w0; simp; omega
  generalize z.take ln = L at *
  subst hlen
  have hlL : (L.length : Int) ≤ 9223372036854775807 := by
    obtain ⟨_, _, _, _, h1, h2, _⟩ := HR.out
    unfold maxLen at h2
    omega
  have m1 := mask2 a
  have e0 : 0 ≤ a % 4 ∧ a % 4 ≤ 3 := by omega
  have hld := ld_bd a
  have HA := Lib.hid (fun k => (newL_ok hld (IntKind.u64.wrap s)).up (L.take k))
  have HW := Lib.hid (fun k => (WfL.new (P := 2 + a % 4) hx.1 hx.2).up (L.take k))
  have h1 := fun w => lnew_any (2 + a % 4) (IntKind.u64.wrap s) w
  rw [show newLE (2 + a % 4) = 0 by unfold newLE; rw [if_pos ((prB_iff _).2 hld)]] at h1
  have HN0 := Lib.hid (newL_eq hld (IntKind.u64.wrap s))
  have hN := llN_bd hld
  have hw := wrapN hld
  have HPX : Hid ((newL (2 + a % 4) (IntKind.u64.wrap s)).P = 2 + a % 4 ∧ (newL (2 + a % 4) (IntKind.u64.wrap s)).x = IntKind.u64.wrap s) := Lib.hid (by rw [HN0.out]; exact ⟨rfl, rfl⟩)
  have HP5 := Lib.hid (fun (K : ByteArray) (w : World) (hk : K.size ≤ maxLen) => lpos_any (2 + a % 4) (IntKind.u64.wrap s) K w hx.1 hx.2 hk)
  have HPE : Hid (∀ K : ByteArray, keyB (byt K) = true → posE (2 + a % 4) K = 0 ∧ posR (2 + a % 4) (IntKind.u64.wrap s) K = (regI (2 + a % 4) (IntKind.u64.wrap s) K : Nat) ∧ posK (2 + a % 4) (IntKind.u64.wrap s) K = rnkI (2 + a % 4) (IntKind.u64.wrap s) K) := Lib.hid (fun K hK => by
    have e : posE (2 + a % 4) K = 0 := by unfold posE; rw [if_neg (by rw [(prB_iff _).2 hld]; simp), if_neg (by rw [hK]; simp)]
    refine ⟨e, ?_, ?_⟩
    · unfold posR; rw [if_pos e]
    · unfold posK; rw [if_pos e])
  have HRG := Lib.hid (fun K : ByteArray => regI_lt (x := IntKind.u64.wrap s) (k := K) hld)
  have HRK := Lib.hid (fun K : ByteArray => rnkI_bd (x := IntKind.u64.wrap s) (k := K) hld)
  have HSU := Lib.hid (fun k (hk : k < L.length) => ldUp_succ (newL (2 + a % 4) (IntKind.u64.wrap s)) hk)
  have HIN := Lib.hid (fun k j => ((HA.out k).ins (keyS j) (wtS j) (itemS j)).2)
  have HS0 : ldUp (newL (2 + a % 4) (IntKind.u64.wrap s)) (L.take 0) = newL (2 + a % 4) (IntKind.u64.wrap s) := rfl
  have HLN : Hid ((newL (2 + a % 4) (IntKind.u64.wrap s)).L = List.replicate (llN (2 + a % 4)) 0) := Lib.hid (by rw [HN0.out])
  generalize newL (2 + a % 4) (IntKind.u64.wrap s) = c0 at *
  generalize a % 4 = q at *
  have HQ := Lib.hid (show Value.int .i64 (wrap64 (2 ^ (2 + q).toNat)) = .int .i64 ((llN (2 + q) : Nat) : Int) by rw [hw])
  obtain ⟨M, hM⟩ : ∃ M, llN (2 + q) = M := ⟨_, rfl⟩
  rw [hM] at HQ hN HLN hw
  have HM := Lib.hid hM
  obtain ⟨e00, e01⟩ := e0
  obtain ⟨hN0, hN1⟩ := hN
  clear wa ws w0 s0 s1 hld HN0 hM hw
  go_enter Tryd.func9, Tryd.ntmps9
  go_wp2_with (first
    | (go_at_call 11; (with_reducible refine (h1 _).mono ?_); rintro e w2 ⟨v2, rfl, ⟨a2, n2, c2, rfl, ho2⟩, hb2⟩; have B2 := Lib.hid hb2; have R2 := Lib.hid ho2.rd; have hgW := hb2.size; clear h1 ho2 hb2)
    | (at_make; (refine wp_makeI rfl _ _ rfl M HQ.out HQ.out (by omega) ?_; intro w3 o3 hb3 hlt3; have O3 := Lib.hid o3; have B3 := Lib.hid hb3; have Z3 := Lib.hid hlt3; clear o3 hb3 hlt3)))
  have hz1 : (w2.alloc (.cells #[.int .i64 c0.P, .int .u64 c0.x, .slice a2 n2 c2] 26)).heap.size = w2.heap.size + 1 := by simp
  have hZ := Z3.out
  rw [hz1] at hZ
  have HI : Hid (RgS W w2.heap.size (w2.heap.size + 1) M c0 w3) := Lib.hid ⟨bgo (bal B2.out _) B3.out, hgW, Nat.lt_succ_self _, hZ, ⟨a2, n2, c2, (LSt.new _ _ _ _ _).below B3.out (by rw [hz1]; exact Nat.lt_succ_self _), ((OffI.new R2.out (Nat.le_refl _)).below (b1 (.cells #[.int .i64 c0.P, .int .u64 c0.x, .slice a2 n2 c2] 26))).below B3.out, ((OffI.new R2.out (Nat.le_succ _)).below (b1 (.cells #[.int .i64 c0.P, .int .u64 c0.x, .slice a2 n2 c2] 26))).below B3.out⟩, by
    have := O3.out
    rw [hz1] at this
    rw [HLN.out]
    exact this⟩
  clear hz1 hZ Z3 O3 B3 B2 R2 HLN
  generalize w2.heap.size + 1 = bw at *
  generalize w2.heap.size = g at *
  rw [← HS0] at HI
  clear HS0
  go_loopw [9, 11] (fun e i wr => ∃ k : Nat, k ≤ L.length ∧ k ≤ 12 ∧ e = .int .i64 0 ∧ i = .int .i64 (k : Int) ∧ Hid (RgS W g bw M (ldUp c0 (L.take k)) wr)) (fun _ i _ => 12 - (intOf i).toNat)
  case atStart => exact ⟨0, by omega, by omega, rfl, rfl, HI⟩
  case round =>
    clear HI
    obtain ⟨k, hk, hk12, rfl, rfl, HI⟩ := hrel
    obtain ⟨hbw, hgW2, hgb, hbs, ⟨a5, n5, c5, hcg, hof, hog⟩, how⟩ := HI.out
    have hgs : g < wr.heap.size := Nat.lt_trans hgb hbs
    have HC := Lib.hid hcg
    have HO := Lib.hid hof
    have HG := Lib.hid hog
    have HWT := Lib.hid how
    have HBW := Lib.hid hbw
    have HWk := HW.out k
    obtain ⟨al1, al2, al3⟩ := HA.out k
    have hlc : (ldUp c0 (L.take k)).L.length = M := by
      have := (llE_ok al3).2.1
      rw [this, HPX.out.1, HM.out]
    by_cases hgo : k < L.length ∧ k < 12
    · obtain ⟨hlt, hlt12⟩ := hgo
      have hlI : (k : Int) < (L.length : Int) := by omega
      have h12I : (k : Int) < 12 := by omega
      have mz := mask16 (L.getD k 0)
      have hz := HR.out.at_ k
      have hit := fun w => bitem_any (L.getD k 0 % 65536) w (by omega) (by omega)
      have hks := keyS_bd (L.getD k 0 % 65536)
      have hKs : (keyS (L.getD k 0 % 65536)).size ≤ maxLen := by unfold maxLen; omega
      have hKb := keyS_ok (L.getD k 0 % 65536)
      have hwt := wtS_bd (L.getD k 0 % 65536)
      have h2 := fun (v : Value) (w : World) (hv : RdL (ldUp c0 (L.take k)) v w) => lins_any (ldUp c0 (L.take k)) v (keyS (L.getD k 0 % 65536)) (wtS (L.getD k 0 % 65536)) w HWk hv hKs (by omega) (by omega)
      rw [HIN.out k (L.getD k 0 % 65536), ← HSU.out k hlt] at h2
      have hdL : (ldUp c0 (L.take (k + 1))).L = (ldUp c0 (L.take k)).L.set (regI (2 + q) (IntKind.u64.wrap s) (keyS (L.getD k 0 % 65536))) (max ((ldUp c0 (L.take k)).L.getD (regI (2 + q) (IntKind.u64.wrap s) (keyS (L.getD k 0 % 65536))) 0) (rnkI (2 + q) (IntKind.u64.wrap s) (keyS (L.getD k 0 % 65536)))) := by
        rw [HSU.out k hlt, (lins_ok (c := ldUp c0 (L.take k)) (by rw [al1]; exact al3) (keyS (L.getD k 0 % 65536)) (wtS (L.getD k 0 % 65536)) (itemS _)).1]
        dsimp only
        rw [al1, al2, HPX.out.1, HPX.out.2]
      have h5 := fun w => HP5.out (keyS (L.getD k 0 % 65536)) w hKs
      rw [(HPE.out _ hKb).1, (HPE.out _ hKb).2.1, (HPE.out _ hKb).2.2] at h5
      have hrg := HRG.out (keyS (L.getD k 0 % 65536))
      have hrk := HRK.out (keyS (L.getD k 0 % 65536))
      rw [HM.out] at hrg
      obtain ⟨d, hd⟩ : ∃ d, ldUp c0 (L.take (k + 1)) = d := ⟨_, rfl⟩
      rw [hd] at h2 hdL
      have HD := Lib.hid hd
      obtain ⟨_, a6, cap6, he6, _, _, hc6⟩ := HR.out.below (hbw.mono (Nat.le_refl _))
      simp only [Value.slice.injEq, true_and] at he6
      obtain ⟨rfl, rfl⟩ := he6
      obtain ⟨b6, off6, rfl, hb6, hcell6⟩ := hc6 (by omega)
      have hcc6 := hcell6 k hlt
      clear hcell6 hc6 hks hKs hKb hz HWk hbw hof hog how hd al1 al2 al3
      generalize L.getD k 0 = y at *
      generalize y % 65536 = j at *
      generalize regI (2 + q) (IntKind.u64.wrap s) (keyS j) = ri at *
      generalize rnkI (2 + q) (IntKind.u64.wrap s) (keyS j) = rk at *
      generalize keyS j = K1 at *
      generalize wtS j = x at *
      generalize ldUp c0 (L.take k) = c at *
      obtain ⟨wv, hwv⟩ : ∃ wv, c.L.getD ri 0 = wv := ⟨_, rfl⟩
      rw [hwv] at hdL
      have HWV := Lib.hid hwv
      have HDL := Lib.hid hdL
      clear hwv
      have hriI : (ri : Int) < (M : Int) := by omega
      have hp0 := Lib.hid (show 0 < c.L.length by omega)
      have hri := Lib.hid (show ri < c.L.length by omega)
      have hri0 : (0 : Int) ≤ (ri : Int) := by omega
      have hdl : decide ((M : Int) ≤ (ri : Int)) = false := decide_eq_false (by omega)
      have hdz : decide ((ri : Int) < 0) = false := decide_eq_false (by omega)
      have hp0 := Lib.hid (show 0 < c.L.length by omega)
      have hri := Lib.hid (show ri < c.L.length by omega)
      have HRK1 := Lib.hid hrk
      have HQB := Lib.hid (And.intro e00 e01)
      clear hrk hrg hwt
      clear hdL
      obtain ⟨⟨p0, p1, p2⟩, -⟩ := HC.out
      clear hcg
      go_wp2_with (first
        | (go_at_call 18; (with_reducible refine (hit _).mono ?_); rintro e w4 ⟨rfl, hb4⟩; have z4 := Nat.lt_of_lt_of_le hgs hb4.size; have C4 := Lib.hid ((HC.out.below hb4 hgs).below (b1 (.cells #[.string K1, .int .i64 x] 37)) z4); have O4 := Lib.hid ((HO.out.below hb4).below (b1 (.cells #[.string K1, .int .i64 x] 37))); have R4 := Lib.hid ((HWT.out.below hb4).below (b1 (.cells #[.string K1, .int .i64 x] 37))); have T4 := Lib.hid (Itm.new w4 K1 x 37); have B4 := Lib.hid (bal (bgo HBW.out hb4) (.cells #[.string K1, .int .i64 x] 37)); have y4 : bw < (w4.alloc (.cells #[.string K1, .int .i64 x] 37)).heap.size := Nat.lt_of_lt_of_le (Nat.lt_of_lt_of_le hbs hb4.size) (b1 _).size; have v4 := Nat.lt_trans hgb y4; clear hit hb4 p0 p1 p2; obtain ⟨⟨p0, p1, p2⟩, -⟩ := C4.out)
        | (go_at_call 19; (with_reducible refine (h2 _ _ (RdL.of O4.out.rd)).mono ?_); rintro e w5 ⟨u, rfl, ⟨a7, n7, c7, rfl, ho7⟩, hb7⟩; have C5 := Lib.hid (C4.out.below hb7 v4); have O5 := Lib.hid (OffI.own ho7 v4); have Q5 := Lib.hid (OffI.own ho7 y4); have R5 := Lib.hid (R4.out.below hb7); have T5 := Lib.hid (T4.out.below hb7); have B5 := Lib.hid (bgo B4.out hb7); have y5 := Nat.lt_of_lt_of_le y4 hb7.size; have ne1 : ¬ w4.heap.size = g := Nat.ne_of_gt z4; have ne2 : ¬ g = w4.heap.size := Nat.ne_of_lt z4; clear h2 ho7 hb7 p0 p1 p2 C4 O4 T4 B4 R4; obtain ⟨⟨p0, p1, p2⟩, f0, f1, f2⟩ := C5.out; obtain ⟨t0, t1, -⟩ := T5.out)
        | (go_at_call 13; (with_reducible refine (h5 _).mono ?_); rintro e w7 ⟨rfl, hb8⟩; obtain ⟨g1, g2, g3, g4, g5, g6⟩ := rg_mid B5.out hgW2 hgb y5 C5.out O5.out Q5.out R5.out hb8; have G1 := Lib.hid g1; have G2 := Lib.hid g2; have G3 := Lib.hid g3; have G4 := Lib.hid g4; have G5 := Lib.hid g5; have G6 := Lib.hid g6; clear h5 hb8 p0 p1 p2 f0 f1 f2 t0 t1 C5 O5 Q5 R5 T5 B5 g1 g2 g3 g4 g5 g6; obtain ⟨b', he', -, -, hcl, -⟩ := G6.out.cells hp0.out; have hbb : bw = b' := congrArg Addr.block (Option.some.inj he'); subst hbb; obtain ⟨hw1, hw2⟩ := hcl ri hri.out; have hwr := G6.out.rd.at_ ri; rw [HWV.out] at hw1 hwr; clear hcl he'))
      exact ⟨⟨k + 1, by omega, by omega, rfl, by go_num, by rw [HD.out]; exact Lib.hid (rg_end G1.out hgW2 hgb G2.out G3.out G4.out G5.out G6.out hp0.out ri _ (by have := HRK1.out; omega) HDL.out)⟩, by simp [intOf]; omega⟩
    · have hgo2 : (¬ (k : Int) < (L.length : Int)) ∨ ((k : Int) < (L.length : Int) ∧ ¬ (k : Int) < 12) := by omega
      have f1 := sameI_any (ldUp c0 (L.take k)).L (.slice a5 n5 c5) (.slice (some ⟨bw, 0, none⟩) M M) wr hof.rd how.rd
      have BW := Lib.hid hbw
      obtain ⟨⟨p0, p1, p2⟩, -⟩ := HC.out
      clear hgo hcg hof hog how hbw HWk al1 al2 al3 hlc HI
      generalize ldUp c0 (L.take k) = c at *
      rcases hgo2 with hg1 | ⟨hg1, hg2⟩
      all_goals
        go_wp2_with (first
          | (go_at_call 31; (with_reducible refine f1.mono ?_); rintro e w8 ⟨rfl, hb8⟩; have B8 := Lib.hid (bgo BW.out hb8); clear hb8 f1)
          | (go_at_call 10; (with_reducible refine (known_any _ (HT.out.below B8.out)).mono ?_); rintro e wz ⟨rfl, hbz⟩; have BZ := Lib.hid (bgo B8.out hbz); clear hbz))
        go_ret
        exact ⟨rfl, BZ.out⟩
end Go.Proofs.YtgnopnifdiipkaaDoor
