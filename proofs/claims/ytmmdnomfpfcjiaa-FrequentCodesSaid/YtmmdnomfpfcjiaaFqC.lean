/- The contract of frequent's surplus. -/
import Derived.Test.YtmmdnomfpfcjiaaFqA
import Derived.Test.YtmmdnomfpfcjiaaISrt
namespace Go.Proofs.Ytmmdnomfpfcjiaa
open Go.RowKit
set_option linter.unusedVariables false
set_option linter.unusedSimpArgs false
/-- The counts of the first k entries, and zeros. -/
def cntF (L : List Ent) (k : Nat) : List Int := cnts (L.take k) ++ List.replicate (L.length - k) 0
theorem cntF_zero (L : List Ent) : cntF L 0 = List.replicate L.length 0 := by simp [cntF, cnts]
theorem cntF_all (L : List Ent) : cntF L L.length = cnts L := by simp [cntF]
theorem cntF_len {L : List Ent} {k : Nat} (h : k ≤ L.length) : (cntF L k).length = L.length := by simp [cntF, cnts]; omega
theorem cntF_succ {L : List Ent} {k : Nat} (h : k < L.length) : (cntF L k).set k (L.getD k Ent.z).c = cntF L (k + 1) := by
  unfold cntF cnts
  have hl : ((L.take k).map (fun x => x.c)).length = k := by simp; omega
  rw [List.set_append_right _ _ (by omega), hl, Nat.sub_self, take_succE h, List.map_append]
  obtain ⟨m, hm⟩ : ∃ m, L.length - k = m + 1 := ⟨L.length - k - 1, by omega⟩
  rw [hm, show L.length - (k + 1) = m by omega]
  simp [List.replicate_succ]
theorem cnts_len (L : List Ent) : (cnts L).length = L.length := by simp [cnts]
theorem cnts_rng {L : List Ent} (h : EOk L) : Rng (cnts L) := fun n hn => by
  obtain ⟨x, hx, rfl⟩ := List.mem_map.1 hn
  exact (h x hx).2.1
def SpS (W : World) (L : List Ent) (k : Nat) (w : World) : Prop := OwnI W.heap.size (cntF L k) (.slice (some ⟨W.heap.size, 0, none⟩) L.length L.length) w ∧ Below W.heap.size W w
theorem SpS.go {W : World} {L : List Ent} {k : Nat} {w w' : World} (h : SpS W L k w) (hb : Below w.heap.size w w') : SpS W L k w' := ⟨h.1.below hb, bgo h.2 hb⟩
theorem SpS.put {W : World} {L : List Ent} {k : Nat} {w : World} (h : SpS W L k w) (hk : k < L.length) (hx : -9223372036854775808 ≤ (L.getD k Ent.z).c ∧ (L.getD k Ent.z).c ≤ 9223372036854775807) : SpS W L (k + 1) (w.setCell ⟨W.heap.size, k, none⟩ (.int .i64 (L.getD k Ent.z).c)) :=
  ⟨by rw [← cntF_succ hk]; exact h.1.put (by rw [cntF_len (by omega)]; omega) k hx, bset h.2 _ _ _ (Nat.le_refl _)⟩
set_option maxRecDepth 100000 in
set_option maxHeartbeats 2000000 in
theorem srplQ_any (L : List Ent) (S : Int) (v : Value) (w : World) (hv : RdE L v w) (hn : L.length ≤ 12) (S0 : 0 ≤ S) (S1 : S ≤ 9223372036854775807) :
    Calls Try.prog 54 #[v, .int .i64 S] w fun e w' => e = .returned (.int .i64 (srpl L S)) ∧ Below w.heap.size w w' := by
  have HR := Lib.hid hv
  obtain ⟨a, cap, rfl⟩ := hv.shape
  have hE := hv.1
  clear hv
  unfold srpl
  by_cases hS : (L.length : Int) ≤ S
  · rw [if_pos hS]
    go_enter Try.func54, Try.ntmps54
    go_wp2
    go_ret
    exact ⟨rfl, Below.refl _ _⟩
  · rw [if_neg hS]
    have h1 : 1 ≤ L.length := by omega
    obtain ⟨q, hq⟩ : ∃ q : Nat, q = L.length - 1 - S.toNat := ⟨_, rfl⟩
    have hq1 : (L.length : Int) - 1 - S = (q : Int) := by omega
    have hq2 : q < L.length := by omega
    have hw1 : wrap64 ((L.length : Int) - 1) = (L.length : Int) - 1 := by unfold wrap64; omega
    have hw2 : wrap64 ((L.length : Int) - 1 - S) = (q : Int) := by unfold wrap64; omega
    have hw3 : IntKind.i64.wrap ((L.length : Int) - 1) = (L.length : Int) - 1 := by rw [IntKind.wrap_i64]; omega
    have hw4 : IntKind.i64.wrap ((L.length : Int) - 1 - S) = (q : Int) := by rw [IntKind.wrap_i64]; omega
    have HN : Hid (L.length ≤ 12) := Lib.hid hn
    have HQ := Lib.hid hq2
    rw [← hq]
    clear hq
    go_enter Try.func54, Try.ntmps54
    go_wp2_with (at_make; (refine wp_makeI rfl _ _ rfl L.length rfl rfl (by omega) ?_; intro w1 o1 hb1 hlt; have H1 : Hid (SpS w L 0 w1) := Lib.hid ⟨by rw [cntF_zero]; exact o1, hb1⟩; clear o1 hb1 hlt))
    go_loopw [6, 7, 17] (fun _ _ i wr => ∃ k : Nat, k ≤ L.length ∧ i = .int .i64 (k : Int) ∧ Hid (SpS w L k wr)) (fun _ _ i _ => L.length - (intOf i).toNat)
    case atStart => exact ⟨0, by omega, rfl, H1⟩
    case round =>
      clear H1
      obtain ⟨k, hk, rfl, HI⟩ := hrel
      by_cases hlt : k < L.length
      · have hlt2 : (k : Int) < (L.length : Int) := by omega
        obtain ⟨-, a1, cap1, he1, -, -, hc1⟩ := HR.out.below HI.out.2
        simp only [Value.slice.injEq, true_and] at he1
        obtain ⟨rfl, rfl⟩ := he1
        obtain ⟨b, off, rfl, hb, hcell⟩ := hc1 (by omega)
        obtain ⟨c0, c1, c2⟩ := hcell k hlt
        have hx := hE.at_ k
        have HP := Lib.hid (fun (w' : World) (h : SpS w L k w') => h.put hlt hx.2.1)
        clear hcell hc1
        generalize L.getD k Ent.z = X at *
        have HI2 := Lib.hid (HI.out.go (b1 (.cells #[.string X.k, .int .i64 X.c, .int .i64 X.e] 49)))
        obtain ⟨z0, zf⟩ := HI2.out.1.cellAt (j := k) (by rw [cntF_len hk]; omega)
        have HP2 := Lib.hid ((HP.out _ HI.out).go (b1 (.cells #[.string X.k, .int .i64 X.c, .int .i64 X.e] 49)))
        have hlw : w.heap.size < wr.heap.size := (World.ownsRow.lt HI.out.1.2 _ rfl).2
        clear HP HI
        go_wp2
        exact ⟨⟨k + 1, by omega, by go_num, HP2⟩, by simp [intOf]; omega⟩
      · obtain rfl : k = L.length := by omega
        have ho := HI.out.1
        rw [cntF_all] at ho
        have HO : Hid (OwnI w.heap.size (cnts L) (.slice (some ⟨w.heap.size, 0, none⟩) (cnts L).length L.length) wr) := Lib.hid (by rw [cnts_len]; exact ho)
        have HB := Lib.hid HI.out.2
        have hs := sortI_any (cnts L) w.heap.size w.heap.size L.length wr HO.out (by rw [cnts_len]; omega) (by rw [cnts_len]; exact HN.out)
        rw [cnts_len] at hs
        have HS := Lib.hid hs
        clear hs ho HI HO
        have HQL : Hid (q < (sortI (cnts L)).length) := Lib.hid (by rw [sortI_len, cnts_len]; exact HQ.out)
        have hq3 : (q : Int) < (L.length : Int) := by omega
        have hq4 : (0 : Int) ≤ (q : Int) := by omega
        go_wp2_with (go_at_call 68; refine HS.out.mono ?_; rintro e w' ⟨rfl, ho, hb⟩; have hcc := (ho.cellAt HQL.out).1; have HB2 := Lib.hid (HB.out.trans hb); clear ho hb)
        go_ret
        exact ⟨rfl, HB2.out⟩
end Go.Proofs.Ytmmdnomfpfcjiaa
