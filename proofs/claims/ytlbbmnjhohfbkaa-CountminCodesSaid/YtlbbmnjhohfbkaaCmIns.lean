/- The contract of countmin.Insert. -/
import Derived.Test.YtlbbmnjhohfbkaaCmAdr
import Derived.Test.YtlbbmnjhohfbkaaCmNew
import Derived.Deep.RegionHeld3
namespace Go.Proofs.Ytlbbmnjhohfbkaa
open Go.RowKit
set_option linter.unusedVariables false
set_option linter.unusedSimpArgs false
/-- The numbers of a sketch are such as its fields can hold. -/
def WfC (c : CM) : Prop := (-9223372036854775808 ≤ c.D ∧ c.D ≤ 9223372036854775807) ∧ (-9223372036854775808 ≤ c.S ∧ c.S ≤ 9223372036854775807) ∧ 0 ≤ c.x ∧ c.x ≤ 18446744073709551615
/-- An item in memory. -/
def ISt (g : Nat) (k : ByteArray) (m : Int) (w : World) : Prop := w.cell? ⟨g, 0, none⟩ = some (.string k) ∧ w.cell? ⟨g, 1, none⟩ = some (.int .i64 m)
theorem ISt.keep {g : Nat} {k : ByteArray} {m : Int} {w w' : World} (h : ISt g k m w) (hb : w'.heap[g]? = w.heap[g]?) : ISt g k m w' :=
  ⟨(World.cell?_of_block (w := w) (a := ⟨g, 0, none⟩) hb).trans h.1, (World.cell?_of_block (w := w) (a := ⟨g, 1, none⟩) hb).trans h.2⟩
theorem ISt.new (k : ByteArray) (m : Int) (t : TypeId) (w : World) : ISt w.heap.size k m (w.alloc (.cells #[.string k, .int .i64 m] t)) := ⟨by go_simp, by go_simp⟩
/-- The blocks of an insertion: the sketch, the item, the result. -/
def InsM (h : Nat) (D S x : Int) (v : Value) (s : Bool) (k : ByteArray) (m : Int) (w : World) : Prop :=
  CSt h D S x v s w ∧ ISt (h + 1) k m w ∧ CSt (h + 2) 0 0 0 (.slice none 0 0) false w
theorem InsM.keep {h : Nat} {D S x : Int} {v : Value} {s : Bool} {k : ByteArray} {m : Int} {w w' : World} (hm : InsM h D S x v s k m w) (hb : ∀ b, b < h + 3 → w'.heap[b]? = w.heap[b]?) : InsM h D S x v s k m w' :=
  ⟨hm.1.keep (hb _ (by omega)), hm.2.1.keep (hb _ (by omega)), hm.2.2.keep (hb _ (by omega))⟩
theorem InsM.below {h B : Nat} {D S x : Int} {v : Value} {s : Bool} {k : ByteArray} {m : Int} {w w' : World} (hm : InsM h D S x v s k m w) (hb : Below B w w') (hB : h + 2 < B) : InsM h D S x v s k m w' :=
  hm.keep fun b hb' => hb.block b (by omega)
theorem InsM.new (D S x : Int) (v : Value) (s : Bool) (k : ByteArray) (m : Int) (t t' : TypeId) (w : World) :
    InsM w.heap.size D S x v s k m (((w.alloc (.cells #[.int .i64 D, .int .i64 S, .int .u64 x, v, .bool s] t)).alloc (.cells #[.string k, .int .i64 m] t')).alloc (.cells #[.int .i64 0, .int .i64 0, .int .u64 0, .slice none 0 0, .bool false] t)) := by
  have hz : ∀ (w : World) o, (w.alloc o).heap.size = w.heap.size + 1 := fun w o => by simp
  refine ⟨((CSt.new D S x v s t w).below (b1 _) (by simp)).below (b1 _) (by simp; omega), ?_, ?_⟩
  · have h := ISt.new k m t' (w.alloc (.cells #[.int .i64 D, .int .i64 S, .int .u64 x, v, .bool s] t))
    rw [hz] at h
    exact h.keep (Below.heap_alloc _ _ _ (by simp))
  · have h := CSt.new 0 0 0 (.slice none 0 0) false t ((w.alloc (.cells #[.int .i64 D, .int .i64 S, .int .u64 x, v, .bool s] t)).alloc (.cells #[.string k, .int .i64 m] t'))
    rw [hz, hz] at h
    exact h
theorem InsM.setV {h : Nat} {D S x : Int} {v : Value} {s : Bool} {k : ByteArray} {m : Int} {w : World} (hm : InsM h D S x v s k m w) (u : Value) (hu : u.oneCell' = true) : InsM h D S x u s k m (w.setCell ⟨h, 3, none⟩ u) :=
  ⟨hm.1.setV u hu, hm.2.1.keep (Below.heap_setCell w ⟨h, 3, none⟩ u _ (show h + 1 ≠ h by omega)), hm.2.2.far (by omega) _ _⟩
/-- The state of an insertion behind r rows. -/
def InsL (W : World) (h B g b n cap N : Nat) (D S x : Int) (L : List Int) (s : Bool) (k : ByteArray) (m : Int) (r : Nat) (w : World) : Prop :=
  InsM h D S x (.slice (some ⟨b, 0, none⟩) n cap) (insUp x S k m L s r).2 k m w ∧ OwnI B (insUp x S k m L s r).1 (.slice (some ⟨b, 0, none⟩) n cap) w ∧ Adr g N x S k w ∧ Below h W w
theorem InsL.step {W : World} {h B g b n cap N : Nat} {D S x : Int} {L : List Int} {s : Bool} {k : ByteArray} {m : Int} {r : Nat} {w : World} (hl : InsL W h B g b n cap N D S x L s k m r w) (hB : h + 3 ≤ B) (hg : b < g) (hi : celI x S k r < L.length) :
    InsL W h B g b n cap N D S x L s k m (r + 1) ((w.setCell ⟨b, celI x S k r, none⟩ (.int .i64 (sumT ((insUp x S k m L s r).1.getD (celI x S k r) 0) m))).setCell ⟨h, 4, none⟩ (.bool ((insUp x S k m L s r).2 || sumF ((insUp x S k m L s r).1.getD (celI x S k r) 0) m))) := by
  obtain ⟨⟨hc, hI, hr⟩, ho, ha, hb⟩ := hl
  have hlen := insUp_len x S k m L s r
  obtain ⟨g', he, hge, hgs, hcl, hst⟩ := ho.cells (by omega)
  simp only [Option.some.injEq, Addr.mk.injEq, and_true] at he
  subst he
  refine ⟨⟨?_, ?_, ?_⟩, ?_, ?_, ?_⟩
  · exact ((hc.far (by omega) _ _).setS _)
  · exact (hI.keep (Below.heap_setCell w ⟨b, celI x S k r, none⟩ _ _ (show h + 1 ≠ b by omega))).keep (Below.heap_setCell _ ⟨h, 4, none⟩ _ _ (show h + 1 ≠ h by omega))
  · exact (hr.far (by omega) _ _).far (by omega) _ _
  · have hs := hst (celI x S k r) (sumT ((insUp x S k m L s r).1.getD (celI x S k r) 0) m) (by have := sumT_bd ((insUp x S k m L s r).1.getD (celI x S k r) 0) m; omega)
    exact hs.keep (by omega) _ _
  · intro q hq
    exact ((World.cell?_of_block (a := ⟨g, q, none⟩) (Below.heap_setCell _ ⟨h, 4, none⟩ _ _ (show g ≠ h by omega))).trans (World.cell?_of_block (a := ⟨g, q, none⟩) (Below.heap_setCell _ ⟨b, celI x S k r, none⟩ _ _ (show g ≠ b by omega)))).trans (ha q hq)
  · exact (hb.setCell (p := ⟨b, celI x S k r, none⟩) (show h ≤ b by omega) _).setCell (p := ⟨h, 4, none⟩) (Nat.le_refl _) _
theorem InsL.drew {W : World} {h B g b n cap N : Nat} {D S x : Int} {L : List Int} {s : Bool} {k : ByteArray} {m : Int} {r : Nat} {w : World} (hl : InsL W h B g b n cap N D S x L s k m r w) : InsL W h B g b n cap N D S x L s k m r w.drew :=
  ⟨hl.1, hl.2.1, hl.2.2.1, hl.2.2.2.drew⟩
/-- One row of an insertion. -/
theorem InsL.raise {W : World} {h B g b n cap N : Nat} {D S x : Int} {L : List Int} {s : Bool} {k : ByteArray} {m : Int} {r : Nat} {w : World} (hl : InsL W h B g b n cap N D S x L s k m r w) (hB : h + 3 ≤ B) (hg : b < g) (hi : celI x S k r < L.length) (hL : L.length ≤ 512) (hn : n = L.length) (m0 : -9223372036854775808 ≤ m) (m1 : m ≤ 9223372036854775807) :
    Calls Try.prog 47 #[.pointer (some ⟨h, 0, none⟩), .int .i64 (celI x S k r), .int .i64 m] w fun e w' => e = .returned (.tuple #[]) ∧ InsL W h B g b n cap N D S x L s k m (r + 1) w' := by
  have hs := hl.step hB hg hi
  obtain ⟨⟨hc, hI, hr⟩, ho, ha, hb⟩ := hl
  have hlen := insUp_len x S k m L s r
  obtain ⟨g', he, hge, hgs, hcl, hst⟩ := ho.cells (by omega)
  simp only [Option.some.injEq, Addr.mk.injEq, and_true] at he
  subst he
  have hrg := Rng.at_ ho.1 (celI x S k r)
  obtain ⟨⟨c0, c1, c2, c3, c4⟩, f0, f1, f2, f3, f4⟩ := hc
  have hh := hcl (celI x S k r) (by omega)
  refine (raise_any h b (celI x S k r) n cap ((insUp x S k m L s r).1.getD (celI x S k r) 0) m (insUp x S k m L s r).2 w (by omega) (by omega) hrg.1 hrg.2 m0 m1 c3 c4 f4 hh.1 hh.2 (by omega) (by omega)).mono ?_
  rintro e w' ⟨rfl, rfl⟩
  exact ⟨rfl, hs⟩
set_option maxRecDepth 100000 in
set_option maxHeartbeats 2000000 in
theorem cins_any (c : CM) (v : Value) (k : ByteArray) (m : Int) (w : World) (hc : WfC c) (hv : RdC c v w) (hk : k.size ≤ maxLen) (m0 : -9223372036854775808 ≤ m) (m1 : m ≤ 9223372036854775807) :
    Calls Try.prog 19 #[v, .agg #[.string k, .int .i64 m]] w fun e w' =>
      ∃ u, e = .returned (.tuple #[u, .int .i64 (cmInsE c k m)]) ∧ OwnC w.heap.size (cmIns c k m) u w' ∧ Below w.heap.size w w' := by
  obtain ⟨D, S, x, L, s⟩ := c
  obtain ⟨⟨D0, D1⟩, ⟨S0, S1⟩, x0, x1⟩ := hc
  obtain ⟨a, n, cap, rfl, hR⟩ := hv
  dsimp only at D0 D1 S0 S1 x0 x1 hR ⊢
  have h1 := fun (w' : World) (hb : Below w.heap.size w w') => cval_any D S x L a n cap s w' D0 D1 S0 S1 (hR.below hb)
  have h2 := fun w => item_any k m w hk m0 m1
  have M0 := Lib.hid (InsM.new D S x (.slice a n cap) s k m 26 37 w)
  have HB0 := Lib.hid (b3 (a := w) (.cells #[.int .i64 D, .int .i64 S, .int .u64 x, .slice a n cap, .bool s] 26) (.cells #[.string k, .int .i64 m] 37) (.cells #[.int .i64 0, .int .i64 0, .int .u64 0, .slice none 0 0, .bool false] 26))
  unfold cmIns cmInsE
  dsimp only
  by_cases hE : cmE D S L = 0
  · rw [if_neg (by rw [hE]; simp), if_neg (by rw [hE]; simp)]
    have hok := cmE_ok hE
    rw [hE] at h1
    by_cases hF : itemE (byt k) m = 0
    · rw [if_neg (by rw [hF]; simp), hF]
      rw [hF] at h2
      have hkey : keyB (byt k) = true := by
        unfold itemE at hF
        by_cases hq : keyB (byt k) = false
        · rw [if_pos hq] at hF; cases hF
        · simpa using hq
      obtain ⟨⟨o1, o2, o3, o4⟩, o5, o6⟩ := hok
      obtain ⟨N, rfl⟩ : ∃ N : Nat, D = (N : Int) := ⟨D.toNat, by omega⟩
      rw [Int.toNat_natCast]
      have hNS : 1 * 1 ≤ (N : Int) * S := Int.mul_le_mul o1 o3 (by omega) (by omega)
      have hNS2 : (N : Int) * S ≤ 8 * 64 := Int.mul_le_mul o2 o4 (by omega) (by omega)
      have hlen : 1 ≤ L.length ∧ L.length ≤ 512 := by omega
      have HCI := Lib.hid (fun (r : Nat) (hr : r < N) => celI_lt (x := x) (D := N) (S := S) (k := k) (r := r) (n := L.length) o3 (by omega) o5)
      clear hE hF
      go_enter Try.func19, Try.ntmps19
      go_wp2_with (first
        | (go_at_call 21; refine (h1 _ HB0.out).mono ?_; rintro e w2 ⟨rfl, hb2⟩; have B2 := Lib.hid (bgo HB0.out hb2); have M2 := Lib.hid (M0.out.below hb2 (by simp)); have L2 := Lib.hid (show w.heap.size + 3 ≤ w2.heap.size by have := hb2.size; simp at this; omega); obtain ⟨⟨⟨q20, q21, q22, q23, q24⟩, f20, f21, f22, f23, f24⟩, ⟨i20, i21⟩, _, _⟩ := M2.out; clear hb2)
        | (go_at_call 44; refine (h2 _).mono ?_; rintro e w3 ⟨rfl, hb3⟩; have B3 := Lib.hid (bgo B2.out hb3); have M3 := Lib.hid (M2.out.below hb3 (by have := L2.out; omega)); have L3 := Lib.hid (Nat.le_trans L2.out hb3.size); obtain ⟨⟨⟨q30, q31, q32, q33, q34⟩, f30, f31, f32, f33, f34⟩, ⟨i30, i31⟩, _, _⟩ := M3.out; clear hb3)
        | (go_at_call 45; refine (clone_any L a n cap _ (hR.below B3.out) (by omega)).mono ?_; rintro e w4 ⟨v4, rfl, ho4, hb4⟩; have B4 := Lib.hid (bgo B3.out hb4); have M4 := Lib.hid (M3.out.below hb4 (by have := L3.out; omega)); have L4 := Lib.hid (Nat.le_trans L3.out hb4.size); obtain ⟨⟨⟨q40, q41, q42, q43, q44⟩, f40, f41, f42, f43, f44⟩, ⟨i40, i41⟩, _, _⟩ := M4.out; obtain ⟨a4, cap4, rfl⟩ := ho4.rd.shape; obtain ⟨b, rfl, hbB, hbs, _, _⟩ := ho4.cells hlen.1; have HO4 := Lib.hid ho4; have HB4 := Lib.hid (And.intro hbB hbs); clear hb4 ho4 hbB hbs)
        | (go_at_call 46; refine (adr_any N S x _ s k _ ⟨_, _, _, rfl⟩ (by omega) ⟨o3, o4⟩ x0 x1 hk hkey).mono ?_; rintro e w5 ⟨g, rfl, hg1, hg2, ha, hb5⟩; have M5 := Lib.hid ((M4.out.setV (.slice (some ⟨b, 0, none⟩) L.length cap4) rfl).below hb5 (by have := L4.out; simp; omega)); have O5 := Lib.hid ((HO4.out.keep (b := w.heap.size) (by have := L3.out; omega) 3 (.slice (some ⟨b, 0, none⟩) L.length cap4)).below hb5); have B5 := Lib.hid ((bset B4.out w.heap.size 3 (.slice (some ⟨b, 0, none⟩) L.length cap4) (Nat.le_refl _)).trans (hb5.mono (by have := L4.out; simp; omega))); have HG := Lib.hid (show b < g by have := HB4.out; simp at hg1; omega); have HI := Lib.hid (show InsL w w.heap.size w3.heap.size g b L.length cap4 N N S x L s k m 0 w5 from ⟨M5.out, O5.out, ha, B5.out⟩); clear ha hb5 hg1 hg2))
      have HB3 := Lib.hid L3.out
      obtain ⟨B, hBB⟩ : ∃ B, w3.heap.size = B := ⟨_, rfl⟩
      rw [hBB] at HI HB3
      clear q20 q21 q22 q23 q24 f20 f21 f22 f23 f24 i20 i21 q30 q31 q32 q33 q34 f30 f31 f32 f33 f34 i30 i31 q40 q41 q42 q43 q44 f40 f41 f42 f43 f44 i40 i41
      clear M0 M2 M3 M4 M5 O5 B5 HO4 HB4 L2 L3 L4 B2 B3 B4 HB0 h1 h2 hR hBB
      go_loopw [9, 31] (fun _ i wr => ∃ r : Nat, r ≤ N ∧ i = .int .i64 (r : Int) ∧ Hid (InsL w w.heap.size B g b L.length cap4 N N S x L s k m r wr)) (fun _ i _ => N - (intOf i).toNat)
      case atStart => exact ⟨0, by omega, rfl, HI⟩
      case round =>
        clear HI
        obtain ⟨r, hr, rfl, HI⟩ := hrel
        by_cases hlt : r < N
        · have hcell := HI.out.2.2.1 r hlt
          have hcn := fun w => by
            have h := cnum_any r (colN x S k r) S w (by omega) (by have := colI_bd x r S k o3; have := colN_eq x S k r o3; omega) (by omega) o4
            rw [colN_eq x S k r o3, ← celI_eq x S k r o3] at h
            exact h
          have hra := HI.out.drew.raise HB3.out HG.out (HCI.out r hlt) hlen.2 rfl m0 m1
          obtain ⟨⟨⟨q0, q1, q2, q3, q4⟩, f0, f1, f2, f3, f4⟩, ⟨i0, i1⟩, _, _⟩ := HI.out.1
          have hrN : (r : Int) < (N : Int) := by omega
          clear o5 hNS hNS2
          generalize celI x S k r = i at *
          generalize colN x S k r = c at *
          go_wp2
          go_region_with (first
            | (go_at_call 48; refine (hcn _).mono ?_; rintro e w' ⟨rfl, rfl⟩)
            | (go_at_call 47; refine hra.mono ?_; rintro e w6 ⟨rfl, h6⟩; have H6 := Lib.hid h6; clear h6))
          all_goals
            go_wp2
            go_roundw
            case rel => exact ⟨r + 1, by omega, by go_num, H6⟩
            case measure => simp [intOf]; omega
        · obtain rfl : r = N := by omega
          obtain ⟨⟨⟨q0, q1, q2, q3, q4⟩, f0, f1, f2, f3, f4⟩, _, ⟨r0, r1, r2, r3, r4⟩, g0, g1, g2, g3, g4⟩ := HI.out.1
          go_wp2
          refine bodyPost_ret (v := .tuple #[.agg #[.int .i64 r, .int .i64 S, .int .u64 x, .slice (some ⟨b, 0, none⟩) L.length cap4, .bool (insUp x S k m L s r).2], .int .i64 0]) (by simp [results, Try.results19, go_sem, *]) rfl ⟨_, rfl, ⟨_, _, _, rfl, ?_⟩, ?_⟩
          · exact (HI.out.2.1.keep5 (by have := HB3.out; omega) _ _ _ _ _).mono (by have := HB3.out; omega)
          · exact bset5 HI.out.2.2.2 _ (by omega) _ _ _ _ _
    · rw [if_pos hF]
      have hF2 : (itemE (byt k) m != 0) = true := by simpa using hF
      generalize itemE (byt k) m = F at *
      clear hF hE hok
      go_enter Try.func19, Try.ntmps19
      go_wp2_with (first
        | (go_at_call 21; refine (h1 _ HB0.out).mono ?_; rintro e w2 ⟨rfl, hb2⟩; have B2 := Lib.hid (bgo HB0.out hb2); have M2 := Lib.hid (M0.out.below hb2 (by simp)); have L2 := Lib.hid (show w.heap.size + 3 ≤ w2.heap.size by have := hb2.size; simp at this; omega); obtain ⟨⟨⟨q20, q21, q22, q23, q24⟩, f20, f21, f22, f23, f24⟩, ⟨i20, i21⟩, _, _⟩ := M2.out; clear hb2)
        | (go_at_call 44; refine (h2 _).mono ?_; rintro e w3 ⟨rfl, hb3⟩; have B3 := Lib.hid (bgo B2.out hb3); have M3 := Lib.hid (M2.out.below hb3 (by have := L2.out; omega)); obtain ⟨_, _, ⟨r30, r31, r32, r33, r34⟩, g30, g31, g32, g33, g34⟩ := M3.out; clear hb3))
      refine bodyPost_ret (v := .tuple #[.agg #[.int .i64 0, .int .i64 0, .int .u64 0, .slice none 0 0, .bool false], .int .i64 F]) (by simp [results, Try.results19, go_sem, *]) rfl ⟨_, rfl, noneC_own _ _, ?_⟩
      exact bset5 B3.out _ (by omega) _ _ _ _ _
  · rw [if_pos hE, if_pos hE]
    have hE2 : (cmE D S L != 0) = true := by simpa using hE
    generalize cmE D S L = E at *
    clear hE
    go_enter Try.func19, Try.ntmps19
    go_wp2_with (go_at_call 21; refine (h1 _ HB0.out).mono ?_; rintro e w2 ⟨rfl, hb2⟩; have B2 := Lib.hid (bgo HB0.out hb2); have M2 := Lib.hid (M0.out.below hb2 (by simp)); obtain ⟨_, _, ⟨r20, r21, r22, r23, r24⟩, g20, g21, g22, g23, g24⟩ := M2.out; clear hb2)
    refine bodyPost_ret (v := .tuple #[.agg #[.int .i64 0, .int .i64 0, .int .u64 0, .slice none 0 0, .bool false], .int .i64 E]) (by simp [results, Try.results19, go_sem, *]) rfl ⟨_, rfl, noneC_own _ _, ?_⟩
    exact bset5 B2.out _ (by omega) _ _ _ _ _
end Go.Proofs.Ytlbbmnjhohfbkaa
