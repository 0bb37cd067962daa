/- The contract of sketchstorelaw10.made. -/
import Derived.Test.YtmmdnomfpfcjiaaRFIns
import Derived.Test.YtmmdnomfpfcjiaaFqV
import Derived.Test.YtmmdnomfpfcjiaaOthI
import Derived.Test.YtmmdnomfpfcjiaaMeet
namespace Go.Proofs.Ytmmdnomfpfcjiaa
open Go.RowKit
set_option linter.unusedVariables false
set_option linter.unusedSimpArgs false
theorem RdQ.of {c : FQ} {a : Option Addr} {n cap : Nat} {w : World} (h : RdE c.L (.slice a n cap) w) : RdQ c (.agg #[.int .i64 c.S, .int .i64 c.T, .int .i64 c.K, .slice a n cap, .bool c.s]) w := ⟨a, n, cap, rfl, h⟩
/-- The loop's variable behind k insertions. -/
def MdQ (W : World) (h g : Nat) (c : FQ) (w : World) : Prop :=
  TQ h 0 0 0 (.slice none 0 0) false w ∧ Below h W w ∧ h < g ∧ ∃ B a n cap, TQ g c.S c.T c.K (.slice a n cap) c.s w ∧ OwnE B c.L (.slice a n cap) w
theorem MdQ.step {W : World} {h g : Nat} {d : FQ} {w : World} (H : TQ h 0 0 0 (.slice none 0 0) false w) (B : Below h W w) (hg : h < g) {S T K : Int} {v : Value} {s : Bool} (C : TQ g S T K v s w) {b : Nat} {a : Option Addr} {n cap : Nat} (O : OwnE b d.L (.slice a n cap) w) :
    MdQ W h g d (((((w.setCell ⟨g, 0, none⟩ (.int .i64 d.S)).setCell ⟨g, 1, none⟩ (.int .i64 d.T)).setCell ⟨g, 2, none⟩ (.int .i64 d.K)).setCell ⟨g, 3, none⟩ (.slice a n cap)).setCell ⟨g, 4, none⟩ (.bool d.s)) := by
  have hne : h ≠ g := by omega
  refine ⟨H.keep ?_, bsetB (bsetB (bsetB (bsetB (bsetB B _ _ _ (by omega)) _ _ _ (by omega)) _ _ _ (by omega)) _ _ _ (by omega)) _ _ _ (by omega), hg, b, a, n, cap, ((((C.set0 d.S).set1 d.T).set2 d.K).set3 _).set4 d.s, ((((O.away (C.apart O) _ _).away (C.apart O) _ _).away (C.apart O) _ _).away (C.apart O) _ _).away (C.apart O) _ _⟩
  rw [Below.heap_setCell _ ⟨g, 4, none⟩ _ _ hne, Below.heap_setCell _ ⟨g, 3, none⟩ _ _ hne, Below.heap_setCell _ ⟨g, 2, none⟩ _ _ hne, Below.heap_setCell _ ⟨g, 1, none⟩ _ _ hne, Below.heap_setCell _ ⟨g, 0, none⟩ _ _ hne]
set_option maxRecDepth 100000 in
set_option maxHeartbeats 4000000 in
theorem madeQ_any (S : Int) (L : List Int) (v : Value) (W : World) (S0 : -9223372036854775808 ≤ S) (S1 : S ≤ 9223372036854775807) (hv : RdI L v W) :
    Calls Try.prog 9 #[.int .i64 S, v] W fun e w' => ∃ u B, e = .returned u ∧ OwnQ B (madeQ S L) u w' ∧ Below W.heap.size W w' := by
  obtain ⟨al, cl, rfl⟩ := hv.shape
  have m1 := mask2 S
  have e0 : 0 ≤ S % 4 ∧ S % 4 ≤ 3 := by omega
  unfold madeQ
  have h1 := fun w => rnewQ_any (1 + S % 4) w (by omega) (by omega)
  have HW := Lib.hid (OkQ.new (1 + S % 4))
  generalize newQ (1 + S % 4) = c0 at *
  generalize newQE (1 + S % 4) = E0 at *
  generalize S % 4 = p at *
  obtain ⟨e00, e01⟩ := e0
  have HR := Lib.hid hv
  have C0 := Lib.hid (TQ.new 0 0 0 (.slice none 0 0) false W)
  clear hv
  go_enter Try.func9, Try.ntmps9
  go_wp2_with (go_at_call 14; (with_reducible refine (h1 _).mono ?_); rintro e w2 ⟨v2, rfl, ⟨a2, n2, c2, rfl, ho2⟩, hb2⟩; have B2 := Lib.hid (bgo (b1 _) hb2); have C2 := Lib.hid (C0.out.keep (hb2.block _ (by simp))); have z2 : W.heap.size < w2.heap.size := (by have := hb2.size; simp at this; omega); have HI : Hid (MdQ W W.heap.size w2.heap.size (mdQ c0 (L.take 0)) (w2.alloc (.cells #[.int .i64 c0.S, .int .i64 c0.T, .int .i64 c0.K, .slice a2 n2 c2, .bool c0.s] 25))) := Lib.hid ⟨C2.out.keep ((b1 _).block _ z2), bal B2.out _, z2, _, a2, n2, c2, TQ.new _ _ _ _ _ _, ho2.alloc _⟩; clear ho2 hb2)
  clear C0 h1
  go_loopw [7] (fun i wr => ∃ k : Nat, k ≤ L.length ∧ k ≤ 10 ∧ i = .int .i64 (k : Int) ∧ Hid (MdQ W W.heap.size w2.heap.size (mdQ c0 (L.take k)) wr)) (fun i _ => 10 - (intOf i).toNat)
  case atStart => exact ⟨0, by omega, by omega, rfl, HI⟩
  case round =>
    clear HI
    obtain ⟨k, hk, hk7, rfl, HI⟩ := hrel
    obtain ⟨hch, hbw, hhg, Bb, a, n, cap, hcg, hof⟩ := HI.out
    have hlL : (L.length : Int) ≤ 9223372036854775807 := by
      obtain ⟨_, _, _, _, h1, h2, _⟩ := HR.out
      unfold maxLen at h2
      omega
    by_cases hlt : k < L.length
    · by_cases hlt7 : k < 10
      · have hz := HR.out.at_ k
        have mz := mask16 (L.getD k 0)
        have hit := fun w => bitem_any (L.getD k 0 % 65536) w (by omega) (by omega)
        have hks := keyS_bd (L.getD k 0 % 65536)
        have hwt := wtS_bd (L.getD k 0 % 65536)
        have HWk := (HW.out.up (L.take k)).1
        have HS := Lib.hid (mdQ_succ c0 hlt)
        obtain ⟨_, a5, cap5, he5, _, _, hc5⟩ := HR.out.below hbw
        simp only [Value.slice.injEq, true_and] at he5
        obtain ⟨rfl, rfl⟩ := he5
        obtain ⟨b5, off5, rfl, hb5, hcell5⟩ := hc5 (by omega)
        have hcc5 := hcell5 k hlt
        have HC := Lib.hid hcg
        have HO := Lib.hid hof
        have HH := Lib.hid hch
        have HB := Lib.hid hbw
        clear hcell5 hc5 hof hch hbw hz
        generalize L.getD k 0 = y at *
        generalize y % 65536 = z at *
        have HKB : Hid ((keyS z).size ≤ maxLen) := Lib.hid (by unfold maxLen; omega)
        clear hks
        generalize keyS z = K at *
        generalize wtS z = x at *
        generalize hc1 : mdQ c0 (L.take k) = c at *
        clear hc1
        have h2 := Lib.hid (fun (v : Value) (w : World) (h : RdQ c v w) => rinsQ_any c K x v w h HWk.wf (by omega) (by omega) HKB.out (by have := HWk.len; omega))
        obtain ⟨⟨p0, p1, p2, p3, p4⟩, f0, f1, f2, f3, f4⟩ := HC.out.cells
        clear hcg
        have hd7 : decide ((k : Int) < 10) = true := decide_eq_true (by omega)
        go_wp2
        refine wp_meet 25 11 (fun wx => Hid (MdQ W W.heap.size w2.heap.size (insQ c K x) wx)) ?_ ?_
        · intro G hG
          go_region_law (first
            | (go_simp; go_at_call 10; (with_reducible refine (hit _).mono ?_); rintro e w3 ⟨rfl, hb3⟩; have HB3 : Hid (Below wr.heap.size wr w3) := Lib.hid (by first | exact hb3 | exact (Below.refl _ _).drew.trans hb3); have C3 := Lib.hid (HC.out.keep (HB3.out.block _ HC.out.lt)); have H3 := Lib.hid (HH.out.keep (HB3.out.block _ HH.out.lt)); have O3 := Lib.hid (HO.out.below HB3.out); have B3 := Lib.hid (bgo HB.out HB3.out); obtain ⟨⟨p0, p1, p2, p3, p4⟩, f0, f1, f2, f3, f4⟩ := C3.out.cells; clear hb3)
            | (go_simp; go_at_call 12; (with_reducible refine (h2.out _ _ (RdQ.of O3.out.rd)).mono ?_); rintro e w4 ⟨u, rfl, ⟨a4, n4, c4, rfl, ho4⟩, hb4⟩; have C4 := Lib.hid (C3.out.keep (hb4.block _ C3.out.lt)); have H4 := Lib.hid (H3.out.keep (hb4.block _ H3.out.lt)); have O4 := Lib.hid ho4; have B4 := Lib.hid (bgo B3.out hb4); obtain ⟨⟨p0, p1, p2, p3, p4⟩, f0, f1, f2, f3, f4⟩ := C4.out.cells; clear hb4 ho4))
          all_goals exact hG _ _ ⟨[_, _, _, _, _, _, _, _, _, _, _], rfl, rfl⟩ (Lib.hid (MdQ.step H4.out B4.out hhg C4.out O4.out))
        · clear HI HO HH HB HC hcc5 mz p0 p1 p2 p3 p4 f0 f1 f2 f3 f4
          intro a' wz hoff HX
          obtain ⟨us, hus, rfl⟩ := hoff
          match us, hus with
          | [u0, u1, u2, u3, u4, u5, u6, u7, u8, u9, u10], _ =>
            simp only [List.take_succ_cons, List.take_zero, List.drop_succ_cons, List.drop_zero, List.cons_append, List.nil_append]
            go_wp2
            go_roundw
            case rel => exact ⟨k + 1, by omega, by omega, by go_num, Lib.hid (by rw [HS.out]; exact HX.out)⟩
            case measure => simp [intOf]; omega
      · obtain rfl : k = 10 := by omega
        obtain ⟨c, hc⟩ : ∃ c, mdQ c0 (L.take 10) = c := ⟨_, rfl⟩
        rw [hc] at hcg hof
        have HC := Lib.hid hc
        have HG := Lib.hid hcg
        have HH := Lib.hid hch
        obtain ⟨⟨p0, p1, p2, p3, p4⟩, -⟩ := hcg.cells
        obtain ⟨⟨q0, q1, q2, q3, q4⟩, g0, g1, g2, g3, g4⟩ := hch.cells
        have HO := Lib.hid hof
        have HB := Lib.hid hbw
        clear hcg hch hof hbw HI
        go_wp2
        refine bodyPost_ret (v := .agg #[.int .i64 c.S, .int .i64 c.T, .int .i64 c.K, .slice a n cap, .bool c.s]) (by simp [results, Try.results9, go_sem, *]) rfl ⟨_, Bb, rfl, ?_, ?_⟩
        · rw [HC.out]
          exact ⟨_, _, _, rfl, ((((HO.out.away (HH.out.apart HO.out) _ _).away (HH.out.apart HO.out) _ _).away (HH.out.apart HO.out) _ _).away (HH.out.apart HO.out) _ _).away (HH.out.apart HO.out) _ _⟩
        · exact bset (bset (bset (bset (bset HB.out _ _ _ (Nat.le_refl _)) _ _ _ (Nat.le_refl _)) _ _ _ (Nat.le_refl _)) _ _ _ (Nat.le_refl _)) _ _ _ (Nat.le_refl _)
    · obtain rfl : k = L.length := by omega
      obtain ⟨c, hc⟩ : ∃ c, mdQ c0 (L.take L.length) = c := ⟨_, rfl⟩
      have HLT := Lib.hid (show mdQ c0 (L.take 10) = c by rw [List.take_of_length_le hk7, ← hc, List.take_length])
      rw [hc] at hcg hof
      clear hc
      have HG := Lib.hid hcg
      have HH := Lib.hid hch
      obtain ⟨⟨p0, p1, p2, p3, p4⟩, -⟩ := hcg.cells
      obtain ⟨⟨q0, q1, q2, q3, q4⟩, g0, g1, g2, g3, g4⟩ := hch.cells
      have HO := Lib.hid hof
      have HB := Lib.hid hbw
      clear hcg hch hof hbw HI
      go_wp2
      refine bodyPost_ret (v := .agg #[.int .i64 c.S, .int .i64 c.T, .int .i64 c.K, .slice a n cap, .bool c.s]) (by simp [results, Try.results9, go_sem, *]) rfl ⟨_, Bb, rfl, ?_, ?_⟩
      · rw [HLT.out]
        exact ⟨_, _, _, rfl, ((((HO.out.away (HH.out.apart HO.out) _ _).away (HH.out.apart HO.out) _ _).away (HH.out.apart HO.out) _ _).away (HH.out.apart HO.out) _ _).away (HH.out.apart HO.out) _ _⟩
      · exact bset (bset (bset (bset (bset HB.out _ _ _ (Nat.le_refl _)) _ _ _ (Nat.le_refl _)) _ _ _ (Nat.le_refl _)) _ _ _ (Nat.le_refl _)) _ _ _ (Nat.le_refl _)
end Go.Proofs.Ytmmdnomfpfcjiaa
