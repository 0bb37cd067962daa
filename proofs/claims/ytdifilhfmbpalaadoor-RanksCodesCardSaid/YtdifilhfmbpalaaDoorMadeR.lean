/- The contract of sketchstorelaw11.made. -/
import Derived.Test.YtdifilhfmbpalaaDoorRRkI
import Derived.Test.YtdifilhfmbpalaaDoorLaw11B
namespace Go.Proofs.YtdifilhfmbpalaaDoor
open Go.RowKit
set_option linter.unusedVariables false
set_option linter.unusedSimpArgs false
def stR (Z : List Int) (s : RK × Int) (y : Int) : RK × Int := insR s.1 (keyS (y % 65536)) (wtS (y % 65536)) Z s.2
/-- Insertions of the items of numbers. -/
def mdR (Z : List Int) (c : RK) (L : List Int) : RK × Int := L.foldl (stR Z) (c, 0)
theorem mdR_zero (Z : List Int) (c : RK) (L : List Int) : mdR Z c (L.take 0) = (c, 0) := by simp [mdR]
theorem mdR_succ (Z : List Int) (c : RK) {L : List Int} {k : Nat} (h : k < L.length) : mdR Z c (L.take (k + 1)) = insR (mdR Z c (L.take k)).1 (keyS (L.getD k 0 % 65536)) (wtS (L.getD k 0 % 65536)) Z (mdR Z c (L.take k)).2 := by
  unfold mdR
  rw [List.take_succ_eq_append_getElem h, List.foldl_append]
  simp only [List.foldl_cons, List.foldl_nil]
  rw [show L.getD k 0 = L[k] by simp [List.getD, h]]
  rfl
/-- What a law makes. -/
def madeR (S : Int) (L Z : List Int) : RK := (mdR Z (newR (2 + 2 * (S % 4))) (L.take 12)).1
theorem szM (S : Int) : szR (2 + 2 * (S % 4)) = true := by rw [szR_iff]; omega
/-- Valid, and the position of the coins is small. -/
def OkM (S : Int) (k : Nat) (s : RK × Int) : Prop := (∃ D, Bd ⟨#[]⟩ S k s.1 D) ∧ 0 ≤ s.2 ∧ s.2 ≤ 41 * (k : Int)
theorem OkM.new {S : Int} (h : szR S = true) : OkM S 0 (newR S, 0) := by
  unfold newR
  rw [if_pos h]
  exact ⟨⟨0, Bd.new h _⟩, by simp, by simp⟩
theorem OkM.step {S : Int} {k : Nat} {s : RK × Int} (h : OkM S k s) (hk : k < 14) (Z : List Int) (y : Int) : OkM S (k + 1) (stR Z s y) ∧ insRE s.1 (keyS (y % 65536)) (wtS (y % 65536)) s.2 = 0 := by
  obtain ⟨⟨D, hD⟩, h0, h1⟩ := h
  obtain ⟨q, hq⟩ := wt_nat (y % 65536)
  have hi := itemS (y % 65536)
  unfold stR
  rw [hq] at hi ⊢
  obtain ⟨h2, -, h3, h4⟩ := hD.step hk hi Z s.2 h0 (by omega)
  exact ⟨⟨⟨_, h2⟩, by omega, by omega⟩, h4⟩
theorem OkM.all {S : Int} (h : szR S = true) (Z L : List Int) : ∀ k, k ≤ 14 → k ≤ L.length → OkM S k (mdR Z (newR S) (L.take k))
  | 0, _, _ => by rw [mdR_zero]; exact OkM.new h
  | k + 1, hk, hl => by
    rw [mdR_succ Z _ (by omega)]
    exact ((OkM.all h Z L k (by omega) (by omega)).step (by omega) Z _).1
theorem OkM.v {S : Int} {k : Nat} {s : RK × Int} (h : OkM S k s) : ValR s.1.S s.1.T s.1.K s.1.L := by obtain ⟨⟨D, hD⟩, -⟩ := h; exact hD.kn.v
theorem madeR_ok (S : Int) (L Z : List Int) : ∃ k, k ≤ 12 ∧ OkM (2 + 2 * (S % 4)) k (mdR Z (newR (2 + 2 * (S % 4))) (L.take 12)) := by
  by_cases h : 12 ≤ L.length
  · exact ⟨12, by omega, OkM.all (szM S) Z L 12 (by omega) h⟩
  · refine ⟨L.length, by omega, ?_⟩
    have h2 := OkM.all (szM S) Z L L.length (by omega) (Nat.le_refl _)
    rw [List.take_length] at h2
    rw [List.take_of_length_le (show L.length ≤ 12 by omega)]
    exact h2
theorem madeR_val (S : Int) (L Z : List Int) : ValR (madeR S L Z).S (madeR S L Z).T (madeR S L Z).K (madeR S L Z).L := by
  obtain ⟨k, -, h⟩ := madeR_ok S L Z
  exact h.v
/-- The loop's variable behind k insertions; the result's struct. -/
def MdR (W : World) (g : Nat) (c : RK) (w : World) : Prop :=
  RsS W.heap.size 0 0 0 (.slice none 0 0) false w ∧ W.heap.size < g ∧ ∃ a n cap, VK1 W (g + 1) g c (.slice a n cap) w
theorem MdR.step {W : World} {g : Nat} {c d : RK} {v : Value} {w : World} (H : RsS W.heap.size 0 0 0 (.slice none 0 0) false w) (hg : W.heap.size < g) (V : VK1 W (g + 1) g c v w) {a : Option Addr} {n cap : Nat} (O : RdB (g + 1) d.L (.slice a n cap) w) :
    MdR W g d (put5 w g (.int .i64 d.S) (.int .i64 d.T) (.int .i64 d.K) (.slice a n cap) (.bool d.s)) :=
  ⟨H.keep (put5_heap w (by omega) _ _ _ _ _), hg, a, n, cap, V.put O⟩
theorem VK1.rb {W : World} {B g : Nat} {c : RK} {v : Value} {w : World} (h : VK1 W B g c v w) : RdB B c.L v w := h.1.2.1
theorem VK1.hg {W : World} {B g : Nat} {c : RK} {v : Value} {w : World} (h : VK1 W B g c v w) : W.heap.size ≤ g := h.2.2.1
set_option maxRecDepth 100000 in
set_option maxHeartbeats 4000000 in
theorem madeR_any (S : Int) (L Z : List Int) (v vc : Value) (W : World) (S0 : -9223372036854775808 ≤ S) (S1 : S ≤ 9223372036854775807) (hv : RdI L v W) (hZ : Rd Z vc W) :
    Calls Tryd.prog 13 #[.int .i64 S, v, vc] W fun e w' => ∃ u, e = .returned u ∧ RbR W.heap.size (madeR S L Z) u w' ∧ Below W.heap.size W w' := by
  obtain ⟨al, cl, rfl⟩ := hv.shape
  have m1 := mask2r S
  have hsz := szM S
  have HOK := Lib.hid (fun k (hk : k ≤ 14) (hl : k ≤ L.length) => OkM.all hsz Z L k hk hl)
  have e0 : 0 ≤ S % 4 ∧ S % 4 ≤ 3 := by omega
  unfold madeR
  have h1 := fun w => rnewR_any (2 + 2 * (S % 4)) w (by omega) (by omega)
  have hnl : (newR (2 + 2 * (S % 4))).L = [] := by unfold newR; rw [if_pos hsz]
  have HNL := Lib.hid hnl
  generalize newR (2 + 2 * (S % 4)) = c0 at *
  generalize newRE (2 + 2 * (S % 4)) = E0 at *
  clear hsz hnl
  obtain ⟨sz, hz⟩ : ∃ sz, sz = 2 + 2 * (S % 4) := ⟨_, rfl⟩
  rw [← hz] at h1
  have HZZ := Lib.hid hz
  generalize S % 4 = p at *
  obtain ⟨e00, e01⟩ := e0
  have HR := Lib.hid hv
  have HZ := Lib.hid hZ
  have C0 := Lib.hid (RsS.new 0 0 0 (.slice none 0 0) false 28 W)
  clear hv hZ hz
  go_enter Tryd.func13, Tryd.ntmps13
  have hsz2 : 2 + 2 * p = sz := HZZ.out.symm
  go_wp2_with (go_at_call 18; (with_reducible refine (h1 _).mono ?_); rintro e w2 ⟨v2, rfl, ⟨a2, n2, c2, rfl, ho2⟩, hb2⟩; have B2 := Lib.hid (bgo (b1 _) hb2); have C2 := Lib.hid (C0.out.go hb2); have z2 : W.heap.size < w2.heap.size := (by have := hb2.size; simp at this; omega); have HI : Hid (MdR W w2.heap.size (mdR Z c0 (L.take 0)).1 (w2.alloc (.cells #[.int .i64 c0.S, .int .i64 c0.T, .int .i64 c0.K, .slice a2 n2 c2, .bool c0.s] 28))) := Lib.hid ⟨C2.out.go (b1 _), z2, a2, n2, c2, by rw [mdR_zero]; exact VK1.new ho2 (.inl HNL.out) B2.out⟩; clear ho2 hb2)
  clear C0 h1 hsz2
  go_loopw [9, 10] (fun t i wr => ∃ k : Nat, k ≤ L.length ∧ k ≤ 12 ∧ i = .int .i64 (k : Int) ∧ ∃ A : Int, t = .int .i64 A ∧ Hid (A = (mdR Z c0 (L.take k)).2 ∧ MdR W w2.heap.size (mdR Z c0 (L.take k)).1 wr)) (fun _ i _ => 12 - (intOf i).toNat)
  case atStart => exact ⟨0, by omega, by omega, rfl, 0, rfl, Lib.hid ⟨by rw [mdR_zero], HI.out⟩⟩
  case round =>
    clear HI
    obtain ⟨k, hk, hk12, rfl, A, rfl, HI⟩ := hrel
    have hlL : (L.length : Int) ≤ 9223372036854775807 := by
      obtain ⟨_, _, _, _, h1, h2, _⟩ := HR.out
      unfold maxLen at h2
      omega
    obtain ⟨hA, hch, hhg, a, n, cap, hvk⟩ := HI.out
    by_cases hlt : k < L.length
    · by_cases hlt12 : k < 12
      · have mz := mask16r (L.getD k 0)
        have hit := fun w => bitem_any (L.getD k 0 % 65536) w (by omega) (by omega)
        have hks := keyS_bd (L.getD k 0 % 65536)
        have hwt := wtS_bd (L.getD k 0 % 65536)
        have hok := HOK.out k (by omega) hk
        have hst := (hok.step (by omega) Z (L.getD k 0)).2
        have HS := Lib.hid (mdR_succ Z c0 hlt)
        have hv := hok.v
        obtain ⟨_, a5, cap5, he5, _, _, hc5⟩ := HR.out.below hvk.bel
        simp only [Value.slice.injEq, true_and] at he5
        obtain ⟨rfl, rfl⟩ := he5
        obtain ⟨b5, off5, rfl, hb5, hcell5⟩ := hc5 (by omega)
        have hcc5 := hcell5 k hlt
        have HH := Lib.hid hch
        have HV := Lib.hid hvk
        clear hcell5 hc5 hch hvk hok
        generalize L.getD k 0 = y at *
        generalize y % 65536 = z at *
        have HKB : Hid ((keyS z).size ≤ maxLen) := Lib.hid (by unfold maxLen; omega)
        clear hks
        generalize keyS z = K at *
        generalize wtS z = x at *
        generalize mdR Z c0 (L.take k) = c at *
        obtain ⟨c, A'⟩ := c
        dsimp only at hv hst hA HV HS
        obtain rfl : A = A' := hA
        have h2 := Lib.hid (fun (B : Nat) (v : Value) (w : World) (h : RbR B c v w) (hB : B ≤ w.heap.size) (hz : Rd Z vc w) => rinsR_any c K x v vc Z A B w h hB hv.lok hz (by omega) (by omega) HKB.out)
        rw [hst] at h2
        clear hst hv
        obtain ⟨⟨p0, p1, p2, p3, p4⟩, f0, f1, f2, f3, f4⟩ := HV.out.one.cells
        have hd12 : decide ((k : Int) < 12) = true := decide_eq_true (by omega)
        go_wp2
        refine wp_meetX 9 29 14 (fun v wx => v = .int .i64 (insR c K x Z A).2 ∧ Hid (MdR W w2.heap.size (insR c K x Z A).1 wx)) ?_ ?_
        · intro G hG
          go_region_law (first
            | (go_simp; go_at_call 14; (with_reducible refine (hit _).mono ?_); rintro e w3 ⟨rfl, hb3⟩; have HB3 : Hid (Below wr.heap.size wr w3) := Lib.hid (by first | exact hb3 | exact (Below.refl _ _).drew.trans hb3); have V3 := Lib.hid (HV.out.go HB3.out); have H3 := Lib.hid (HH.out.go HB3.out); obtain ⟨⟨p0, p1, p2, p3, p4⟩, f0, f1, f2, f3, f4⟩ := V3.out.one.cells; clear hb3)
            | (go_simp; go_at_call 16; (with_reducible refine (h2.out _ _ _ V3.out.one.rb V3.out.size (HZ.out.below V3.out.bel)).mono ?_); rintro e w4 ⟨u, rfl, ⟨a4, n4, c4, rfl, ho4⟩, hb4⟩; have V4 := Lib.hid (V3.out.go hb4); have H4 := Lib.hid (H3.out.go hb4); have O4 := Lib.hid ho4; obtain ⟨⟨p0, p1, p2, p3, p4⟩, f0, f1, f2, f3, f4⟩ := V4.out.one.cells; clear hb4 ho4))
          all_goals exact hG _ _ _ ⟨[_, _, _, _, _, _, _, _, _, _, _, _, _, _], rfl, rfl⟩ ⟨rfl, Lib.hid (MdR.step H4.out hhg V4.out O4.out)⟩
        · clear HI HH HV hcc5 mz p0 p1 p2 p3 p4 f0 f1 f2 f3 f4
          intro a' wz t hoff hX
          obtain ⟨us, hus, rfl⟩ := hoff
          obtain ⟨rfl, HX⟩ := hX
          match us, hus with
          | [u0, u1, u2, u3, u4, u5, u6, u7, u8, u9, u10, u11, u12, u13], _ =>
            simp only [List.set_cons_zero, List.set_cons_succ, List.take_succ_cons, List.take_zero, List.drop_succ_cons, List.drop_zero, List.cons_append, List.nil_append]
            go_wp2
            exact ⟨⟨k + 1, by omega, by omega, by go_num, _, rfl, Lib.hid ⟨by rw [HS.out], by rw [HS.out]; exact HX.out⟩⟩, by simp [intOf]; omega⟩
      · obtain rfl : k = 12 := by omega
        obtain ⟨c, hc⟩ : ∃ c, (mdR Z c0 (L.take 12)).1 = c := ⟨_, rfl⟩
        rw [hc] at hvk
        have HC := Lib.hid hc
        obtain ⟨⟨p0, p1, p2, p3, p4⟩, -⟩ := hvk.one.cells
        obtain ⟨⟨q0, q1, q2, q3, q4⟩, g0, g1, g2, g3, g4⟩ := hch
        have HV := Lib.hid hvk
        clear hvk HI hA hc
        go_wp2
        refine bodyPost_ret (v := .agg #[.int .i64 c.S, .int .i64 c.T, .int .i64 c.K, .slice a n cap, .bool c.s]) (by simp [results, Tryd.results13, go_sem, *]) rfl ⟨_, rfl, ?_, ?_⟩
        · have l3 : W.heap.size < w2.heap.size + 1 := by omega
          rw [HC.out]
          exact ⟨_, _, _, rfl, ((((((HV.out.rb.under l3).under l3).under l3).under l3).under l3)).mono (by omega)⟩
        · exact bset (bset (bset (bset (bset HV.out.bel _ _ _ (Nat.le_refl _)) _ _ _ (Nat.le_refl _)) _ _ _ (Nat.le_refl _)) _ _ _ (Nat.le_refl _)) _ _ _ (Nat.le_refl _)
    · obtain rfl : k = L.length := by omega
      have HLT : Hid (mdR Z c0 (L.take 12) = mdR Z c0 (L.take L.length)) := Lib.hid (by rw [List.take_of_length_le hk12, List.take_length])
      obtain ⟨c, hc⟩ : ∃ c, (mdR Z c0 (L.take L.length)).1 = c := ⟨_, rfl⟩
      have HC : Hid ((mdR Z c0 (L.take 12)).1 = c) := Lib.hid (by rw [HLT.out]; exact hc)
      rw [hc] at hvk
      obtain ⟨⟨p0, p1, p2, p3, p4⟩, -⟩ := hvk.one.cells
      obtain ⟨⟨q0, q1, q2, q3, q4⟩, g0, g1, g2, g3, g4⟩ := hch
      have HV := Lib.hid hvk
      clear hvk HI hA hc HLT
      go_wp2
      refine bodyPost_ret (v := .agg #[.int .i64 c.S, .int .i64 c.T, .int .i64 c.K, .slice a n cap, .bool c.s]) (by simp [results, Tryd.results13, go_sem, *]) rfl ⟨_, rfl, ?_, ?_⟩
      · have l3 : W.heap.size < w2.heap.size + 1 := by omega
        rw [HC.out]
        exact ⟨_, _, _, rfl, ((((((HV.out.rb.under l3).under l3).under l3).under l3).under l3)).mono (by omega)⟩
      · exact bset (bset (bset (bset (bset HV.out.bel _ _ _ (Nat.le_refl _)) _ _ _ (Nat.le_refl _)) _ _ _ (Nat.le_refl _)) _ _ _ (Nat.le_refl _)) _ _ _ (Nat.le_refl _)
end Go.Proofs.YtdifilhfmbpalaaDoor
