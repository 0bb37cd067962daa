/- BFl, Fin, QrN: in one text. -/
import Derived.Test.YtjibbnknliamkaaGreatDoorPg12
import Derived.Test.YtjibbnknliamkaaGreatDoorPg20
import Derived.Test.YtjibbnknliamkaaGreatDoorPg14
import Derived.Test.YtjibbnknliamkaaGreatDoorPg30
import Derived.Test.YtjibbnknliamkaaGreatDoorPg01
import Derived.Test.YtjibbnknliamkaaGreatDoorPg28
import Derived.Test.YtjibbnknliamkaaGreatDoorPg09
import Derived.Test.YtjibbnknliamkaaGreatDoorPg23
import Derived.Test.YtjibbnknliamkaaGreatDoorPg15
import Derived.Test.YtjibbnknliamkaaGreatDoorPg00
import Derived.Test.YtjibbnknliamkaaGreatDoorPg08
import Derived.Test.YtjibbnknliamkaaGreatDoorPg03
import Derived.Test.YtjibbnknliamkaaGreatDoorPg04
import Derived.Test.YtjibbnknliamkaaGreatDoorPg02
import Derived.Deep.RegionLaw
import Derived.BigRegion
import Derived.Deep.RegionHeld3
namespace Go.Proofs.YtjibbnknliamkaaGreatDoor
open Go Go.RowKit
set_option linter.unusedVariables false
set_option linter.unusedSimpArgs false
section
variable {P : Program} {ops : Array Oper} {o : Oper} {a : Act} {w : World} {K : Act → World → Prop} {Q : Exit → Act → World → Prop} {E : Prop}
/-- A store of a whole row, as one step. -/
theorem step_whole {T : TypeId} {p y : Operand} (hgd : o.guard = none) (ho : o.op = .store T p y) {g : Nat} (hp : a.eval p = .pointer (some ⟨g, 0, none⟩)) {A B : Array Value} (h : RowAt g A w) (hy : a.eval y = .agg B) (hi : (P.info? T).map (·.size) = some B.size) (h1 : B.all (·.oneCell') = true) (hn : B.size = A.size)
    (hK : ∀ w', RowAt g B w' → Oth g w w' → K (a.put o.dst undef) w') : if Region.wanted o (yielded ops a.tmps) = true then Oper.wp P o a w K Q else E := by
  rw [if_pos (by unfold Region.wanted; rw [hgd])]
  obtain ⟨t, ht⟩ := h
  unfold Oper.wp execOp
  simp only [ho, hp, hy, Instr.storeAt, Instr.sureAddr, Sem.run_bind, Sem.run_pure, Result.andThen_ok, run_storeVar_row w g t T A B ht hi hn.symm h1]
  exact hK _ ⟨t, setRow_heap w g _ _ t _ ht⟩ ⟨⟨rfl, rfl, rfl, by simp [World.setRow], fun k hk => setRow_other w g k _ (by omega)⟩, fun b hb => setRow_other w g b _ hb⟩
end
/-- All blocks from B on are as they were. -/
def Abv (B : Nat) (w w' : World) : Prop := w.heap.size ≤ w'.heap.size ∧ ∀ b, B ≤ b → b < w.heap.size → w'.heap[b]? = w.heap[b]?
theorem Abv.refl (B : Nat) (w : World) : Abv B w w := ⟨Nat.le_refl _, fun _ _ _ => rfl⟩
theorem Abv.oth {B g : Nat} {w w' : World} (h : Oth g w w') (hg : g < B) : Abv B w w' := ⟨h.1.size, fun b hb _ => h.2 b (by omega)⟩
theorem Abv.below {B : Nat} {w w' : World} (h : Below w.heap.size w w') : Abv B w w' := ⟨h.size, fun b _ hb => h.block b hb⟩
theorem Abv.trans {B : Nat} {a b c : World} (h : Abv B a b) (k : Abv B b c) : Abv B a c := ⟨Nat.le_trans h.1 k.1, fun i hi hl => (k.2 i hi (Nat.lt_of_lt_of_le hl h.1)).trans (h.2 i hi hl)⟩
theorem Abv.mono {B B' : Nat} {w w' : World} (h : Abv B w w') (hB : B ≤ B') : Abv B' w w' := ⟨h.1, fun b hb hl => h.2 b (Nat.le_trans hB hb) hl⟩
theorem OwnI.abv {B : Nat} {L : List Int} {v : Value} {w w' : World} (h : OwnI B L v w) (hb : Abv B w w') : OwnI B L v w' := by
  obtain ⟨hy, h1, h2⟩ := h
  refine ⟨hy, h1, ?_⟩
  rcases h2 with h2 | ⟨g, cap, cur, rfl, hb', hg, r⟩
  · exact .inl h2
  · exact .inr ⟨g, cap, cur, rfl, hb', (hb.2 g hb' (Array.getElem?_eq_some_iff.1 hg).1).trans hg, r⟩
theorem OwnE.abv {B : Nat} {L : List Ent} {v : Value} {w w' : World} (h : OwnE B L v w) (hb : Abv B w w') : OwnE B L v w' := by
  obtain ⟨hy, h1, h2⟩ := h
  refine ⟨hy, h1, ?_⟩
  rcases h2 with h2 | ⟨g, cap, cur, rfl, hb', hg, r⟩
  · exact .inl h2
  · exact .inr ⟨g, cap, cur, rfl, hb', (hb.2 g hb' (Array.getElem?_eq_some_iff.1 hg).1).trans hg, r⟩
theorem RdI.nil_any {v : Value} {w : World} (h : RdI [] v w) (w' : World) : RdI [] v w' := by
  obtain ⟨hy, a, cap, rfl, h1, h2, h3⟩ := h
  exact ⟨hy, a, cap, rfl, h1, h2, fun hp => absurd hp (by simp)⟩
theorem RdL_2.nil_any {v : Value} {w : World} (h : RdL_2 [] v w) (w' : World) : RdL_2 [] v w' := by
  obtain ⟨us, ⟨h0, a, cap, rfl, h1, h2, h3⟩, h4⟩ := h
  have hu : us = [] := List.eq_nil_of_length_eq_zero h4.1
  subst hu
  exact ⟨[], ⟨h0, a, cap, rfl, h1, h2, fun hp => absurd hp (by simp)⟩, h4.1, fun j hj => absurd hj (by simp)⟩
theorem OwnK.abv {B : Nat} {s : SK} {v : Value} {w w' : World} (h : OwnK B s v w) (hb : Abv B w w') : RdK s v w' := by
  obtain ⟨a1, n1, c1, a2, n2, c2, a3, n3, c3, a4, n4, c4, a5, n5, c5, hv, h1, h2, h3, h4, us, h5⟩ := h
  exact ⟨a1, n1, c1, a2, n2, c2, a3, n3, c3, a4, n4, c4, a5, n5, c5, hv, (h1.abv hb).rd, (h2.abv hb).rd, (h3.abv hb).rd, (h4.abv hb).rd, RdB.rd ⟨us, h5.keep hb.1 hb.2⟩⟩
theorem RdE.nil_any {v : Value} {w : World} (h : RdE [] v w) (w' : World) : RdE [] v w' := by
  obtain ⟨hy, a, cap, rfl, h1, h2, h3⟩ := h
  exact ⟨hy, a, cap, rfl, h1, h2, fun hp => absurd hp (by simp)⟩
theorem RdK.cells {s : SK} {v : Value} {w : World} (h : RdK s v w) : ∃ A : Array Value, v = .agg A ∧ A.size = 29 ∧ A.toList.all (·.oneCell') = true := by
  obtain ⟨a1, n1, c1, a2, n2, c2, a3, n3, c3, a4, n4, c4, a5, n5, c5, hv, hr⟩ := h
  exact ⟨_, hv, rfl, rfl⟩
/-- What a round of Fill holds: the sketch in its variable (block g), the place of the coins. -/
def FlR (G : Nat → SK → Int → Prop) (g h : Nat) (W : World) (k : Nat) (at_ : Int) (w : World) : Prop :=
  ∃ s A, (∀ w3, Abv (W.heap.size + 2) w w3 → RdK s (.agg A) w3) ∧ RowAt g A w ∧ A.size = 29 ∧ A.toList.all (·.oneCell') = true ∧ G k s at_ ∧ Below W.heap.size W w ∧ W.heap.size < g ∧ RowAt h zcSk w ∧ h ≠ g ∧ W.heap.size ≤ h
set_option maxRecDepth 100000 in
set_option maxHeartbeats 4000000 in
theorem fill_any (G : Nat → SK → Int → Prop) (L : List It2) (Z : List Int) (k S D : Int) (x : Int) (vi vc : Value) (w : World) (hL : L.length ≤ 100) (hi : RdIt L vi w) (hc : Rd Z vc w)
    (HN : ∀ w' : World, Calls Tryz.prog 24 #[.agg #[.int .i64 k, .int .i64 S, .int .i64 D, .int .u64 x]] w' fun e w2 => ∃ v E s, e = .returned (.tuple #[v, .int .i64 E]) ∧ (∀ w3, Abv w'.heap.size w2 w3 → RdK s v w3) ∧ G 0 s 0 ∧ Below w'.heap.size w' w2)
    (HI : ∀ (j : Nat) (s : SK) (v : Value) (at_ : Int) (w' : World), j < L.length → G j s at_ → RdK s v w' → Rd Z vc w' → Calls Tryz.prog 25 #[v, .agg #[.string (L.getD j It2.z).k, .int .i64 (L.getD j It2.z).c], vc, .int .i64 at_] w' fun e w2 => ∃ u s' at' E, e = .returned (.tuple #[u, .int .i64 at', .int .i64 E]) ∧ (∀ w3, Abv w'.heap.size w2 w3 → RdK s' u w3) ∧ G (j + 1) s' at' ∧ Below w'.heap.size w' w2) :
    Calls Tryz.prog 29 #[.agg #[.int .i64 k, .int .i64 S, .int .i64 D, .int .u64 x], vi, vc] w fun e w' => ∃ v s at_, e = .returned v ∧ (∀ w3, Abv (w.heap.size + 2) w' w3 → RdK s v w3) ∧ G L.length s at_ ∧ Below w.heap.size w w' := by
  obtain ⟨ai, ci, rfl⟩ := hi.shape
  obtain ⟨_, ac, cc, rfl, _⟩ := id hc
  have HN' := Lib.hid HN
  have HI' := Lib.hid HI
  have HL := Lib.hid hi
  have HC := Lib.hid hc
  have HZ := Lib.hid hL
  clear HN HI hi hc hL
  go_enter Tryz.func29, Tryz.ntmps29
  go_upto_region 1 with (fail)
  refine wp_genW (fun w1 => RowAt w.heap.size #[.int .i64 k, .int .i64 S, .int .i64 D, .int .u64 x] w1 ∧ RowAt (w.heap.size + 1) zcSk w1 ∧ Below w.heap.size w w1) ⟨(RowAt.new _ _ _).al _, RowAt.new1 _ _ _ _, b2 _ _⟩ ?_
  rintro w1 ⟨r1, r2, hb⟩
  have R1 := Lib.hid r1
  have Q1 := Lib.hid r2
  have B1 := Lib.hid hb
  clear r1 r2 hb
  go_wp2_with (first
    | (refine ldPm (B := #[.int .i64 k, .int .i64 S, .int .i64 D, .int .u64 x]) rfl rfl rfl R1.out rfl (by kernel_rfl) ?_)
    | (go_at_call 24; (with_reducible refine (HN'.out _).mono ?_); rintro e w2 ⟨v, E, s, rfl, hr, hg, hb2⟩; obtain ⟨A, rfl, hA, hA1⟩ := (hr _ (Abv.refl _ _)).cells; have L1 := Lib.hid (show w.heap.size + 2 ≤ w1.heap.size by have := Q1.out.lt; omega); have O2 := Lib.hid hr; have Q2 := Lib.hid (Q1.out.go hb2); have B2 := Lib.hid (bgo B1.out hb2); have G2 := Lib.hid hg; have Z2 := Lib.hid hA; have Y2 := Lib.hid hA1; clear hb2 hr hg hA hA1)
    | (refine wp_whole (B := A) rfl rfl rfl (RowAt.new w2 zcSk 48) rfl (infSk.trans (by rw [Z2.out])) (all_one Y2.out) Z2.out ?_; intro w3 r3 o3; have D3 := Lib.hid (Below.trans (b1 _) (o3.1 : Below w2.heap.size _ w3)); have HF : Hid (FlR G w2.heap.size (w.heap.size + 1) w 0 0 w3) := Lib.hid ⟨s, A, fun w6 h6 => O2.out w6 ((Abv.below D3.out).trans (h6.mono L1.out)), r3, Z2.out, Y2.out, G2.out, bgo B2.out D3.out, by have := Q2.out.lt; omega, Q2.out.go D3.out, by have := Q2.out.lt; omega, by omega⟩; clear r3 o3 D3 O2 Q2 B2 G2 Z2 Y2))
  go_loopw [9, 10] (fun t i wr => ∃ (j : Nat) (at_ : Int), j ≤ L.length ∧ i = .int .i64 (j : Int) ∧ t = .int .i64 at_ ∧ Hid (FlR G w2.heap.size (w.heap.size + 1) w j at_ wr)) (fun _ i _ => L.length - (intOf i).toNat)
  case atStart => exact ⟨0, 0, by omega, rfl, rfl, HF⟩
  case round =>
    clear HF
    obtain ⟨j, at_, hj, rfl, rfl, HF⟩ := hrel
    by_cases hlt : j < L.length
    · obtain ⟨s2, A2, hr, hrow, hA, hA1, hG, hB, hgl, hz, hne, hle⟩ := HF.out
      obtain ⟨_, a5, cap5, he5, _, _, hc5⟩ := HL.out.below hB
      simp only [Value.slice.injEq, true_and] at he5
      obtain ⟨rfl, rfl⟩ := he5
      obtain ⟨b5, off5, rfl, hb5, hcell5⟩ := hc5 (by omega)
      obtain ⟨d0, d1⟩ := hcell5 j hlt
      have hbw : b5 < w.heap.size := by
        obtain ⟨_, a6, cap6, he6, _, _, hc6⟩ := HL.out
        simp only [Value.slice.injEq, true_and] at he6
        obtain ⟨rfl, rfl⟩ := he6
        obtain ⟨b6, off6, he7, hb6, _⟩ := hc6 (by omega)
        cases he7
        exact hb6
      have HJ := Lib.hid (fun (v : Value) (w' : World) => HI'.out j s2 v at_ w' hlt hG)
      generalize (L.getD j It2.z).k = K2 at *
      generalize (L.getD j It2.z).c = x2 at *
      have HRr := Lib.hid (hr wr (Abv.refl _ _))
      have HRow := Lib.hid hrow
      have HA := Lib.hid hA
      have HA1 := Lib.hid hA1
      have HB := Lib.hid hB
      have HGl := Lib.hid hgl
      have HZr := Lib.hid hz
      have HNe := Lib.hid hne
      have HLe := Lib.hid hle
      have HBw := Lib.hid hbw
      have hlt2 : (j : Int) < (L.length : Int) := by omega
      have hj100 : (j : Int) < 100 := by have := HZ.out; omega
      clear hr hrow hA hA1 hG hB hgl hz hne hle hcell5 hc5 hb5 hbw HF
      go_upto_region 6 with (fail)
      rename_i KK hKK
      refine wp_region_held_drew (S := fun w' => w'.cell? ⟨b5, off5 + j * 2, none⟩ = some (.string K2) ∧ w'.cell? ⟨b5, off5 + j * 2 + 1, none⟩ = some (.int .i64 x2)) (by kernel_rfl) ⟨d0, d1⟩ (fun hH0 => ?_)
      refine wpAnyH_take (i := 1) (v := .slice (some ⟨b5, off5, none⟩) L.length ci) rfl (by kernel_rfl) (by kernel_rfl) (by kernel_rfl) (fun _ _ _ h => h) (Or.inl ⟨by rfl, fun _ _ => run_mv rfl rfl⟩) hH0 ?_
      try simp only [Act.put, List.getElem_toArray, List.getElem_cons_zero, List.getElem_cons_succ, List.setIfInBounds_toArray, List.set_cons_zero, List.set_cons_succ]
      refine wpAnyH_take (i := 2) (v := .int .i64 (j : Int)) rfl (by kernel_rfl) (by kernel_rfl) (by kernel_rfl) (fun _ _ _ h => h) (Or.inl ⟨by rfl, fun _ _ => run_mv rfl rfl⟩) hH0 ?_
      try simp only [Act.put, List.getElem_toArray, List.getElem_cons_zero, List.getElem_cons_succ, List.setIfInBounds_toArray, List.set_cons_zero, List.set_cons_succ]
      refine wpAnyH_take (i := 3) (v := .pointer (some ⟨b5, off5 + j * 2, none⟩)) rfl (by kernel_rfl) (by kernel_rfl) (by kernel_rfl) (fun _ _ _ h => h) (Or.inl ⟨by rfl, fun ww hSw => by go_simp⟩) hH0 ?_
      try simp only [Act.put, List.getElem_toArray, List.getElem_cons_zero, List.getElem_cons_succ, List.setIfInBounds_toArray, List.set_cons_zero, List.set_cons_succ]
      refine wpAnyH_take (i := 4) (v := .agg #[.string K2, .int .i64 x2]) rfl (by kernel_rfl) (by kernel_rfl) (by kernel_rfl) (fun _ _ _ h => h) (Or.inl ⟨by rfl, fun ww hSw => by (try dsimp only at hSw); go_simp⟩) hH0 ?_
      try simp only [Act.put, List.getElem_toArray, List.getElem_cons_zero, List.getElem_cons_succ, List.setIfInBounds_toArray, List.set_cons_zero, List.set_cons_succ]
      refine wpAnyH_take (i := 5) (v := .slice ac Z.length cc) rfl (by kernel_rfl) (by kernel_rfl) (by kernel_rfl) (fun _ _ _ h => h) (Or.inl ⟨by rfl, fun _ _ => run_mv rfl rfl⟩) hH0 ?_
      try simp only [Act.put, List.getElem_toArray, List.getElem_cons_zero, List.getElem_cons_succ, List.setIfInBounds_toArray, List.set_cons_zero, List.set_cons_succ]
      refine wpAnyH_take (i := 6) (v := .int .i64 at_) rfl (by kernel_rfl) (by kernel_rfl) (by kernel_rfl) (fun _ _ _ h => h) (Or.inl ⟨by rfl, fun _ _ => run_mv rfl rfl⟩) hH0 ?_
      try simp only [Act.put, List.getElem_toArray, List.getElem_cons_zero, List.getElem_cons_succ, List.setIfInBounds_toArray, List.set_cons_zero, List.set_cons_succ]
      refine wpAnyH_ready (rs := [0]) (by kernel_rfl) (by simp) ?_
      refine AllReadyH.cons rfl (fun K1 hK1 => ?_) AllReadyH.nil
      rw [if_pos (by rfl)]
      unfold Oper.wp
      rw [run_part (A := A2) (B := A2) (o := _) rfl rfl (RowAt.drew HRow.out) Tryz.underlying48 rfl (infSk.trans (by rw [HA.out])) (by simp)]
      refine hK1.out _ _ hH0 (fun hH1 => ?_)
      clear hK1 K1
      try simp only [Act.put, List.getElem_toArray, List.getElem_cons_zero, List.getElem_cons_succ, List.setIfInBounds_toArray, List.set_cons_zero, List.set_cons_succ]
      refine wpAnyH_ready (rs := [7]) (by kernel_rfl) (by simp) ?_
      refine AllReadyH.cons rfl (fun K1 hK1 => ?_) AllReadyH.nil
      (dsimp only [List.getElem_toArray, List.getElem_cons_zero, List.getElem_cons_succ])
      rw [if_pos (by rfl)]
      go_simp
      go_at_call 25
      have HX := HJ.out (.agg A2) wr.drew HRr.out (HC.out.below (below_drew HB.out))
      (with_reducible refine HX.mono ?_)
      clear HX
      rintro e w4 ⟨u, s4, at4, E4, rfl, hs4, hG4, hb4⟩
      obtain ⟨A4, rfl, hA4, hA41⟩ := (hs4 _ (Abv.refl _ _)).cells
      have hb4' : Below wr.heap.size wr w4 := by first | exact hb4 | exact (Below.refl _ _).drew.trans hb4
      have HS4 := Lib.hid hs4
      have HG4 := Lib.hid hG4
      have HA4 := Lib.hid hA4
      have HA41 := Lib.hid hA41
      have HRow4 := Lib.hid (HRow.out.go hb4')
      have HB4 := Lib.hid (bgo HB.out hb4')
      have HZ4 := Lib.hid (HZr.out.go hb4')
      have HLt := Lib.hid HRow.out.lt
      clear hs4 hG4 hA4 hA41 HRr HRow HZr HB HJ
      refine hK1.out _ _ ⟨(hb4'.cell (p := ⟨b5, off5 + j * 2, none⟩) (Nat.lt_trans HBw.out (Nat.lt_trans HGl.out HLt.out))).trans hH1.1, (hb4'.cell (p := ⟨b5, off5 + j * 2 + 1, none⟩) (Nat.lt_trans HBw.out (Nat.lt_trans HGl.out HLt.out))).trans hH1.2⟩ (fun hH2 => ?_)
      clear hK1 K1 hH0 hH1 hb4 hb4'
      try simp only [Act.put, List.getElem_toArray, List.getElem_cons_zero, List.getElem_cons_succ, List.setIfInBounds_toArray, List.set_cons_zero, List.set_cons_succ]
      refine wpAnyH_take (i := 8) (v := .tuple #[.agg A4, .int .i64 at4, .int .i64 E4]) rfl (by kernel_rfl) (by kernel_rfl) (by kernel_rfl) (fun _ _ _ h => h) (Or.inl ⟨by rfl, fun _ _ => run_mv rfl rfl⟩) hH2 ?_
      try simp only [Act.put, List.getElem_toArray, List.getElem_cons_zero, List.getElem_cons_succ, List.setIfInBounds_toArray, List.set_cons_zero, List.set_cons_succ]
      refine wpAnyH_take (i := 9) (v := .agg A4) rfl (by kernel_rfl) (by kernel_rfl) (by kernel_rfl) (fun _ _ _ h => h) (Or.inl ⟨by rfl, fun ww hSw => by go_simp⟩) hH2 ?_
      try simp only [Act.put, List.getElem_toArray, List.getElem_cons_zero, List.getElem_cons_succ, List.setIfInBounds_toArray, List.set_cons_zero, List.set_cons_succ]
      refine wpAnyH_take (i := 10) (v := .int .i64 at4) rfl (by kernel_rfl) (by kernel_rfl) (by kernel_rfl) (fun _ _ _ h => h) (Or.inl ⟨by rfl, fun ww hSw => by go_simp⟩) hH2 ?_
      try simp only [Act.put, List.getElem_toArray, List.getElem_cons_zero, List.getElem_cons_succ, List.setIfInBounds_toArray, List.set_cons_zero, List.set_cons_succ]
      refine wpAnyH_take (i := 11) (v := .int .i64 E4) rfl (by kernel_rfl) (by kernel_rfl) (by kernel_rfl) (fun _ _ _ h => h) (Or.inl ⟨by rfl, fun ww hSw => by go_simp⟩) hH2 ?_
      try simp only [Act.put, List.getElem_toArray, List.getElem_cons_zero, List.getElem_cons_succ, List.setIfInBounds_toArray, List.set_cons_zero, List.set_cons_succ]
      refine wpAnyH_ready (rs := [12]) (by kernel_rfl) (by simp) ?_
      refine AllReadyH.cons rfl (fun K1 hK1 => ?_) AllReadyH.nil
      show ite _ _ _
      refine step_whole (B := A4) rfl rfl rfl HRow4.out rfl (infSk.trans (by rw [HA4.out])) (all_one HA41.out) (HA4.out.trans HA.out.symm) ?_
      intro w5 r5 o5
      refine hK1.out _ _ ⟨?_, ?_⟩ (fun hH3 => ?_)
      · exact (World.cell?_of_block (o5.2 b5 (by have := HBw.out; have := HGl.out; omega))).trans hH2.1
      · exact (World.cell?_of_block (o5.2 b5 (by have := HBw.out; have := HGl.out; omega))).trans hH2.2
      clear hK1 K1 hH2
      try simp only [Act.put, List.getElem_toArray, List.getElem_cons_zero, List.getElem_cons_succ, List.setIfInBounds_toArray, List.set_cons_zero, List.set_cons_succ]
      refine wpAnyH_take (i := 13) (v := .int .i64 at4) rfl (by kernel_rfl) (by kernel_rfl) (by kernel_rfl) (fun _ _ _ h => h) (Or.inl ⟨by rfl, fun _ _ => run_as rfl rfl⟩) hH3 ?_
      try simp only [Act.put, List.getElem_toArray, List.getElem_cons_zero, List.getElem_cons_succ, List.setIfInBounds_toArray, List.set_cons_zero, List.set_cons_succ]
      refine wpAnyH_done (by kernel_rfl) ?_ _
      simp only [Exit.inBlock, Exit.then]
      refine hKK _ _ ?_
      clear hKK
      have HF5 : Hid (FlR G w2.heap.size (w.heap.size + 1) w (j + 1) at4 w5) := Lib.hid ⟨s4, A4, fun w6 h6 => HS4.out w6 ((Abv.oth o5 (by have := HLt.out; simpa using this)).trans (h6.mono (by have := HLt.out; have := HGl.out; simp; omega))), r5, HA4.out, HA41.out, HG4.out, HB4.out.trans (o5.1.mono (by have := HGl.out; omega)), HGl.out, HZ4.out.oth o5 HNe.out, HNe.out, HLe.out⟩
      clear HS4 HG4 HA4 HA41 HRow4 HB4 HZ4 r5 o5
      go_wp2
      go_roundw
      case rel => exact ⟨j + 1, at4, by omega, by go_num, rfl, HF5⟩
      case measure => simp [intOf]; omega
    · obtain rfl : j = L.length := by omega
      obtain ⟨s2, A2, hr, hrow, hA, hA1, hG, hB, hgl, hz, hne, hle⟩ := HF.out
      have HRr := Lib.hid hr
      have HRow := Lib.hid hrow
      have HA := Lib.hid hA
      have HA1 := Lib.hid hA1
      have HG := Lib.hid hG
      have HB := Lib.hid hB
      have HZr := Lib.hid hz
      clear hr hrow hA hA1 hG hB hgl hz hne hle HF
      go_wp2_with (first
        | (refine ldSk (B := A2) rfl rfl rfl HRow.out HA.out (by simp) ?_)
        | (refine wp_whole (B := A2) rfl rfl rfl HZr.out rfl (infSk.trans (by rw [HA.out])) (all_one HA1.out) HA.out ?_; intro w5 r5 o5; have R5 := Lib.hid r5; have O5 := Lib.hid o5; have B5 := Lib.hid (HB.out.trans (o5.1.mono (Nat.le_succ _))); clear r5 o5))
      exact ret_row Tryz.results29 rfl rfl R5.out Tryz.underlying48 rfl (infSk.trans (by rw [HA.out])) ⟨_, s2, at_, rfl, fun w6 h6 => HRr.out _ ((Abv.oth O5.out (by omega)).trans h6), HG.out, B5.out⟩
end Go.Proofs.YtjibbnknliamkaaGreatDoor
namespace Go.Proofs.YtjibbnknliamkaaGreatDoor
open Go.RowKit
set_option linter.unusedVariables false
set_option linter.unusedSimpArgs false
set_option maxRecDepth 100000 in
set_option maxHeartbeats 2000000 in
theorem fin_4 (t : TP) (z : TP) (a1 : Option Addr) (c1 : Nat) (a2 : Option Addr) (c2 : Nat) (a3 : Option Addr) (c3 : Nat) (a4 : Option Addr) (c4 : Nat) (a5 : Option Addr) (c5 : Nat) (ca : Option Addr) (cn cc : Nat) (K : ByteArray) (x at_ : Int) (w : World) (hw : WfK (fmO t)) (h : RowsK (fmO t) (.slice a1 0 c1) (.slice a2 0 c2) (.slice a3 t.L.length c3) (.slice a4 0 c4) (.slice a5 0 c5) w) (hp : prmE 4 t.S 0 0 = 0) (hv : valE t.S t.T t.L = 0) (hks : K.size ≤ maxLen) (x0 : -9223372036854775808 ≤ x) (x1 : x ≤ 9223372036854775807) (hi : itemE (byt K) x = 0) (t0 : 0 ≤ at_) (t1 : at_ ≤ 1073741824)
    (hz : insTop t K x = z) (he : insE t K x = 0) (hz0 : z.S = t.S) :
    Calls Tryz.prog 25 #[.agg #[.int .i64 4, .int .i64 t.S, .int .i64 0, .int .u64 0, .int .i64 0, .int .i64 0, .bool false, .int .i64 0, .int .i64 0, .int .u64 0, .slice a1 0 c1, .bool false, .int .i64 0, .int .u64 0, .slice a2 0 c2, .int .i64 t.S, .int .i64 t.T, .slice a3 t.L.length c3, .bool t.s, .int .i64 0, .int .i64 0, .int .i64 0, .slice a4 0 c4, .bool false, .int .i64 0, .int .i64 0, .int .i64 0, .slice a5 0 c5, .bool false], .agg #[.string K, .int .i64 x], .slice ca cn cc, .int .i64 at_] w fun e w' =>
      ∃ v, e = .returned (.tuple #[v, .int .i64 at_, .int .i64 0]) ∧ (∀ w3, Abv w.heap.size w' w3 → RdK (fmO z) v w3) ∧ Below w.heap.size w w' := by
  have HV := Lib.hid (fun w' (hb : Below w.heap.size w w') => rvv_4 t a1 c1 a2 c2 a3 c3 a4 c4 a5 c5 w' hw (h.below hb) hp hv)
  have HI := Lib.hid (fun w => ritem_any K x w hks x0 x1)
  have HT : Hid (∀ w' : World, Below w.heap.size w w' → Calls Tryz.prog 59 #[.agg #[.int .i64 t.S, .int .i64 t.T, .slice a3 t.L.length c3, .bool t.s], .agg #[.string K, .int .i64 x]] w' fun e w2 => ∃ v, e = .returned (.tuple #[v, .int .i64 0]) ∧ OwnT w'.heap.size z v w2 ∧ Below w'.heap.size w' w2) := Lib.hid (fun w' hb => by
    have := rins_any t.S t.T x t.L t.s K a3 t.L.length c3 w' hw.tS.1 hw.tS.2 hw.tt.1 hw.tt.2 x0 x1 hks (h.2.2.1.below hb) hw.tL
    rw [he, hz] at this
    exact this)
  rw [hi] at HI
  have HO := Lib.hid (fun w => rpos_ok at_ w t0 t1)
  have HR := Lib.hid h
  have e1 := hz0
  clear hz0
  generalize t.S = q1 at *
  subst e1
  clear h hi hz he hp hv
  go_enter Tryz.func25, Tryz.ntmps25
  go_upto_region 1 with (fail)
  refine wp_genW (fun w1 => RowAt w.heap.size #[.int .i64 4, .int .i64 z.S, .int .i64 0, .int .u64 0, .int .i64 0, .int .i64 0, .bool false, .int .i64 0, .int .i64 0, .int .u64 0, .slice a1 0 c1, .bool false, .int .i64 0, .int .u64 0, .slice a2 0 c2, .int .i64 z.S, .int .i64 t.T, .slice a3 t.L.length c3, .bool t.s, .int .i64 0, .int .i64 0, .int .i64 0, .slice a4 0 c4, .bool false, .int .i64 0, .int .i64 0, .int .i64 0, .slice a5 0 c5, .bool false] w1 ∧ RowAt (w.heap.size + 1) #[.string K, .int .i64 x] w1 ∧ RowAt (w.heap.size + 1 + 1) zcSk w1 ∧ Below w.heap.size w w1) ⟨((RowAt.new _ _ _).al _).al _, (RowAt.new1 _ _ _ _).al _, RowAt.new2 _ _ _ _ _, b3 _ _ _⟩ ?_
  rintro w1 ⟨r1, r2, r3, hb⟩
  have R1 := Lib.hid r1
  have Q1 := Lib.hid r2
  have Z1 := Lib.hid r3
  have B1 := Lib.hid hb
  clear r1 r2 r3 hb
  go_wp2_with (first
    | (refine ldSk (B := #[.int .i64 4, .int .i64 z.S, .int .i64 0, .int .u64 0, .int .i64 0, .int .i64 0, .bool false, .int .i64 0, .int .i64 0, .int .u64 0, .slice a1 0 c1, .bool false, .int .i64 0, .int .u64 0, .slice a2 0 c2, .int .i64 z.S, .int .i64 t.T, .slice a3 t.L.length c3, .bool t.s, .int .i64 0, .int .i64 0, .int .i64 0, .slice a4 0 c4, .bool false, .int .i64 0, .int .i64 0, .int .i64 0, .slice a5 0 c5, .bool false]) rfl rfl rfl R1.out rfl (by kernel_rfl) ?_)
    | (go_at_call 37; (with_reducible refine (HV.out _ B1.out).mono ?_); rintro e w2 ⟨rfl, hb2⟩; have R2 := Lib.hid (R1.out.go hb2); have Q2 := Lib.hid (Q1.out.go hb2); have Z2 := Lib.hid (Z1.out.go hb2); have B2 := Lib.hid (bgo B1.out hb2); clear hb2 R1 Q1 Z1 B1)
    | (refine ldIt (B := #[.string K, .int .i64 x]) rfl rfl rfl Q2.out rfl (by kernel_rfl) ?_)
    | (go_at_call 54; (with_reducible refine (HI.out _).mono ?_); rintro e w3 ⟨rfl, hb2⟩; have R3 := Lib.hid (R2.out.go hb2); have Q3 := Lib.hid (Q2.out.go hb2); have Z3 := Lib.hid (Z2.out.go hb2); have B3 := Lib.hid (bgo B2.out hb2); clear hb2 R2 Q2 Z2 B2)
    | (go_at_call 55; (with_reducible refine (HO.out _).mono ?_); rintro e w' ⟨rfl, rfl⟩)
    | (refine ldi (v := .int .i64 4) rfl rfl rfl R3.out rfl ?_)
    | (refine ldTo (B := #[.int .i64 z.S, .int .i64 t.T, .slice a3 t.L.length c3, .bool t.s]) rfl rfl rfl R3.out rfl (by kernel_rfl) ?_)
    | (refine ldIt (B := #[.string K, .int .i64 x]) rfl rfl rfl Q3.out rfl (by kernel_rfl) ?_)
    | (go_at_call 59; (with_reducible refine (HT.out _ B3.out).mono ?_); rintro e w5 ⟨v, rfl, ⟨a9, n9, c9, rfl, ho⟩, hb2⟩; have O5 := Lib.hid ho; have G3 := Lib.hid Z3.out.lt; have R5 := Lib.hid (R3.out.go hb2); have Z5 := Lib.hid (Z3.out.go hb2); have B5 := Lib.hid (bgo B3.out hb2); clear ho hb2 R3 Q3 Z3 B3)
    | (refine stTo (A' := #[.int .i64 4, .int .i64 z.S, .int .i64 0, .int .u64 0, .int .i64 0, .int .i64 0, .bool false, .int .i64 0, .int .i64 0, .int .u64 0, .slice a1 0 c1, .bool false, .int .i64 0, .int .u64 0, .slice a2 0 c2, .int .i64 z.S, .int .i64 z.T, .slice a9 n9 c9, .bool z.s, .int .i64 0, .int .i64 0, .int .i64 0, .slice a4 0 c4, .bool false, .int .i64 0, .int .i64 0, .int .i64 0, .slice a5 0 c5, .bool false]) rfl rfl rfl R5.out rfl rfl (all_one rfl) (show 15 + 4 ≤ 29 by decide) (by kernel_rfl) ?_; intro w6 r6 o6; have R6 := Lib.hid r6; have Z6 := Lib.hid (Z5.out.oth o6 (by omega)); have B6 := Lib.hid (B5.out.trans o6.1); have O6 := Lib.hid (O5.out.oth o6 (by have := G3.out; omega)); clear r6 o6 Z5 B5 R5 O5)
    | (refine ldSk (B := #[.int .i64 4, .int .i64 z.S, .int .i64 0, .int .u64 0, .int .i64 0, .int .i64 0, .bool false, .int .i64 0, .int .i64 0, .int .u64 0, .slice a1 0 c1, .bool false, .int .i64 0, .int .u64 0, .slice a2 0 c2, .int .i64 z.S, .int .i64 z.T, .slice a9 n9 c9, .bool z.s, .int .i64 0, .int .i64 0, .int .i64 0, .slice a4 0 c4, .bool false, .int .i64 0, .int .i64 0, .int .i64 0, .slice a5 0 c5, .bool false]) rfl rfl rfl R6.out rfl (by kernel_rfl) ?_)
    | (refine stWh rfl rfl rfl Z6.out rfl rfl rfl rfl ?_; intro w7 r7 o7; have Z7 := Lib.hid r7; have B7 := Lib.hid (B6.out.trans (o7.1.mono (by omega))); have O7 := Lib.hid (O6.out.oth o7 (by have := G3.out; omega)); clear r7 o7 Z6 B6 O6))
  have hr := HR.out
  exact ret_row3 Tryz.results25 rfl rfl rfl rfl Z7.out Tryz.underlying48 rfl infSk ⟨_, rfl, fun w8 h8 => ⟨a1, 0, c1, a2, 0, c2, a9, n9, c9, a4, 0, c4, a5, 0, c5, by kernel_rfl, RdI.nil_any hr.1 w8, RdI.nil_any hr.2.1 w8, (O7.out.abv (h8.mono (by have := G3.out; omega))).rd, RdE.nil_any hr.2.2.2.1 w8, RdL_2.nil_any hr.2.2.2.2 w8⟩, B7.out⟩
set_option maxRecDepth 100000 in
set_option maxHeartbeats 2000000 in
theorem fin_5 (f : FQ) (z : FQ) (a1 : Option Addr) (c1 : Nat) (a2 : Option Addr) (c2 : Nat) (a3 : Option Addr) (c3 : Nat) (a4 : Option Addr) (c4 : Nat) (a5 : Option Addr) (c5 : Nat) (ca : Option Addr) (cn cc : Nat) (K : ByteArray) (x at_ : Int) (w : World) (hw : WfK (fmQ f)) (h : RowsK (fmQ f) (.slice a1 0 c1) (.slice a2 0 c2) (.slice a3 0 c3) (.slice a4 f.L.length c4) (.slice a5 0 c5) w) (hp : prmE 5 f.S 0 0 = 0) (hv : valQ f.S f.T f.K f.L = 0) (wf : WfQ f) (hks : K.size ≤ maxLen) (x0 : -9223372036854775808 ≤ x) (x1 : x ≤ 9223372036854775807) (hi : itemE (byt K) x = 0) (t0 : 0 ≤ at_) (t1 : at_ ≤ 1073741824)
    (hz : insQ f K x = z) (he : insQE f K x = 0) (hz0 : z.S = f.S) :
    Calls Tryz.prog 25 #[.agg #[.int .i64 5, .int .i64 f.S, .int .i64 0, .int .u64 0, .int .i64 0, .int .i64 0, .bool false, .int .i64 0, .int .i64 0, .int .u64 0, .slice a1 0 c1, .bool false, .int .i64 0, .int .u64 0, .slice a2 0 c2, .int .i64 0, .int .i64 0, .slice a3 0 c3, .bool false, .int .i64 f.S, .int .i64 f.T, .int .i64 f.K, .slice a4 f.L.length c4, .bool f.s, .int .i64 0, .int .i64 0, .int .i64 0, .slice a5 0 c5, .bool false], .agg #[.string K, .int .i64 x], .slice ca cn cc, .int .i64 at_] w fun e w' =>
      ∃ v, e = .returned (.tuple #[v, .int .i64 at_, .int .i64 0]) ∧ (∀ w3, Abv w.heap.size w' w3 → RdK (fmQ z) v w3) ∧ Below w.heap.size w w' := by
  have HV := Lib.hid (fun w' (hb : Below w.heap.size w w') => rvv_5 f a1 c1 a2 c2 a3 c3 a4 c4 a5 c5 w' hw (h.below hb) hp hv)
  have HI := Lib.hid (fun w => ritem_any K x w hks x0 x1)
  have HT : Hid (∀ w' : World, Below w.heap.size w w' → Calls Tryz.prog 60 #[.agg #[.int .i64 f.S, .int .i64 f.T, .int .i64 f.K, .slice a4 f.L.length c4, .bool f.s], .agg #[.string K, .int .i64 x]] w' fun e w2 => ∃ v, e = .returned (.tuple #[v, .int .i64 0]) ∧ OwnQ w'.heap.size z v w2 ∧ Below w'.heap.size w' w2) := Lib.hid (fun w' hb => by
    have := rinsQ_any f K x (.agg #[.int .i64 f.S, .int .i64 f.T, .int .i64 f.K, .slice a4 f.L.length c4, .bool f.s]) w' ⟨_, _, _, rfl, h.2.2.2.1.below hb⟩ wf x0 x1 hks hw.fL
    rw [he, hz] at this
    exact this)
  rw [hi] at HI
  have HO := Lib.hid (fun w => rpos_ok at_ w t0 t1)
  have HR := Lib.hid h
  have e1 := hz0
  clear hz0
  generalize f.S = q1 at *
  subst e1
  clear h hi hz he hp hv
  go_enter Tryz.func25, Tryz.ntmps25
  go_upto_region 1 with (fail)
  refine wp_genW (fun w1 => RowAt w.heap.size #[.int .i64 5, .int .i64 z.S, .int .i64 0, .int .u64 0, .int .i64 0, .int .i64 0, .bool false, .int .i64 0, .int .i64 0, .int .u64 0, .slice a1 0 c1, .bool false, .int .i64 0, .int .u64 0, .slice a2 0 c2, .int .i64 0, .int .i64 0, .slice a3 0 c3, .bool false, .int .i64 z.S, .int .i64 f.T, .int .i64 f.K, .slice a4 f.L.length c4, .bool f.s, .int .i64 0, .int .i64 0, .int .i64 0, .slice a5 0 c5, .bool false] w1 ∧ RowAt (w.heap.size + 1) #[.string K, .int .i64 x] w1 ∧ RowAt (w.heap.size + 1 + 1) zcSk w1 ∧ Below w.heap.size w w1) ⟨((RowAt.new _ _ _).al _).al _, (RowAt.new1 _ _ _ _).al _, RowAt.new2 _ _ _ _ _, b3 _ _ _⟩ ?_
  rintro w1 ⟨r1, r2, r3, hb⟩
  have R1 := Lib.hid r1
  have Q1 := Lib.hid r2
  have Z1 := Lib.hid r3
  have B1 := Lib.hid hb
  clear r1 r2 r3 hb
  go_wp2_with (first
    | (refine ldSk (B := #[.int .i64 5, .int .i64 z.S, .int .i64 0, .int .u64 0, .int .i64 0, .int .i64 0, .bool false, .int .i64 0, .int .i64 0, .int .u64 0, .slice a1 0 c1, .bool false, .int .i64 0, .int .u64 0, .slice a2 0 c2, .int .i64 0, .int .i64 0, .slice a3 0 c3, .bool false, .int .i64 z.S, .int .i64 f.T, .int .i64 f.K, .slice a4 f.L.length c4, .bool f.s, .int .i64 0, .int .i64 0, .int .i64 0, .slice a5 0 c5, .bool false]) rfl rfl rfl R1.out rfl (by kernel_rfl) ?_)
    | (go_at_call 37; (with_reducible refine (HV.out _ B1.out).mono ?_); rintro e w2 ⟨rfl, hb2⟩; have R2 := Lib.hid (R1.out.go hb2); have Q2 := Lib.hid (Q1.out.go hb2); have Z2 := Lib.hid (Z1.out.go hb2); have B2 := Lib.hid (bgo B1.out hb2); clear hb2 R1 Q1 Z1 B1)
    | (refine ldIt (B := #[.string K, .int .i64 x]) rfl rfl rfl Q2.out rfl (by kernel_rfl) ?_)
    | (go_at_call 54; (with_reducible refine (HI.out _).mono ?_); rintro e w3 ⟨rfl, hb2⟩; have R3 := Lib.hid (R2.out.go hb2); have Q3 := Lib.hid (Q2.out.go hb2); have Z3 := Lib.hid (Z2.out.go hb2); have B3 := Lib.hid (bgo B2.out hb2); clear hb2 R2 Q2 Z2 B2)
    | (go_at_call 55; (with_reducible refine (HO.out _).mono ?_); rintro e w' ⟨rfl, rfl⟩)
    | (refine ldi (v := .int .i64 5) rfl rfl rfl R3.out rfl ?_)
    | (refine ldFq (B := #[.int .i64 z.S, .int .i64 f.T, .int .i64 f.K, .slice a4 f.L.length c4, .bool f.s]) rfl rfl rfl R3.out rfl (by kernel_rfl) ?_)
    | (refine ldIt (B := #[.string K, .int .i64 x]) rfl rfl rfl Q3.out rfl (by kernel_rfl) ?_)
    | (go_at_call 60; (with_reducible refine (HT.out _ B3.out).mono ?_); rintro e w5 ⟨v, rfl, ⟨a9, n9, c9, rfl, ho⟩, hb2⟩; have O5 := Lib.hid ho; have G3 := Lib.hid Z3.out.lt; have R5 := Lib.hid (R3.out.go hb2); have Z5 := Lib.hid (Z3.out.go hb2); have B5 := Lib.hid (bgo B3.out hb2); clear ho hb2 R3 Q3 Z3 B3)
    | (refine stFq (A' := #[.int .i64 5, .int .i64 z.S, .int .i64 0, .int .u64 0, .int .i64 0, .int .i64 0, .bool false, .int .i64 0, .int .i64 0, .int .u64 0, .slice a1 0 c1, .bool false, .int .i64 0, .int .u64 0, .slice a2 0 c2, .int .i64 0, .int .i64 0, .slice a3 0 c3, .bool false, .int .i64 z.S, .int .i64 z.T, .int .i64 z.K, .slice a9 n9 c9, .bool z.s, .int .i64 0, .int .i64 0, .int .i64 0, .slice a5 0 c5, .bool false]) rfl rfl rfl R5.out rfl rfl (all_one rfl) (show 19 + 5 ≤ 29 by decide) (by kernel_rfl) ?_; intro w6 r6 o6; have R6 := Lib.hid r6; have Z6 := Lib.hid (Z5.out.oth o6 (by omega)); have B6 := Lib.hid (B5.out.trans o6.1); have O6 := Lib.hid (O5.out.oth o6 (by have := G3.out; omega)); clear r6 o6 Z5 B5 R5 O5)
    | (refine ldSk (B := #[.int .i64 5, .int .i64 z.S, .int .i64 0, .int .u64 0, .int .i64 0, .int .i64 0, .bool false, .int .i64 0, .int .i64 0, .int .u64 0, .slice a1 0 c1, .bool false, .int .i64 0, .int .u64 0, .slice a2 0 c2, .int .i64 0, .int .i64 0, .slice a3 0 c3, .bool false, .int .i64 z.S, .int .i64 z.T, .int .i64 z.K, .slice a9 n9 c9, .bool z.s, .int .i64 0, .int .i64 0, .int .i64 0, .slice a5 0 c5, .bool false]) rfl rfl rfl R6.out rfl (by kernel_rfl) ?_)
    | (refine stWh rfl rfl rfl Z6.out rfl rfl rfl rfl ?_; intro w7 r7 o7; have Z7 := Lib.hid r7; have B7 := Lib.hid (B6.out.trans (o7.1.mono (by omega))); have O7 := Lib.hid (O6.out.oth o7 (by have := G3.out; omega)); clear r7 o7 Z6 B6 O6))
  have hr := HR.out
  exact ret_row3 Tryz.results25 rfl rfl rfl rfl Z7.out Tryz.underlying48 rfl infSk ⟨_, rfl, fun w8 h8 => ⟨a1, 0, c1, a2, 0, c2, a3, 0, c3, a9, n9, c9, a5, 0, c5, by kernel_rfl, RdI.nil_any hr.1 w8, RdI.nil_any hr.2.1 w8, RdE.nil_any hr.2.2.1 w8, (O7.out.abv (h8.mono (by have := G3.out; omega))).rd, RdL_2.nil_any hr.2.2.2.2 w8⟩, B7.out⟩
end Go.Proofs.YtjibbnknliamkaaGreatDoor
namespace Go.Proofs.YtjibbnknliamkaaGreatDoor
open Go.RowKit
set_option linter.unusedVariables false
set_option linter.unusedSimpArgs false
/-- What the fields that a kind uses must satisfy: the first error. -/
def qrU (k : Int) (K : ByteArray) (n u d : Int) : Int :=
  if k = 2 ∨ k = 6 then (if keyB (byt K) = false then 7 else 0)
  else if k = 5 then (if n < 0 ∨ 32 < n then 5 else 0)
  else if k = 7 then (if d < 1 ∨ 1000000 < d ∨ u < 0 ∨ d < u then 5 else 0)
  else 0
/-- Is a field set that the kind does not use? -/
def qrS (k : Int) (K : ByteArray) (n u d : Int) : Prop := ((¬ (k = 2 ∨ k = 6)) ∧ K.toList ≠ []) ∨ (k ≠ 5 ∧ n ≠ 0) ∨ (k ≠ 7 ∧ (u ≠ 0 ∨ d ≠ 0))
instance (k : Int) (K : ByteArray) (n u d : Int) : Decidable (qrS k K n u d) := by unfold qrS; infer_instance
/-- The error of a query. -/
def qrE (k : Int) (K : ByteArray) (n u d : Int) : Int :=
  if k < 1 ∨ 7 < k then 8 else if qrU k K n u d ≠ 0 then qrU k K n u d else if qrS k K n u d then 18 else 0
theorem qr_cases (k : Int) : k = 1 ∨ k = 2 ∨ k = 3 ∨ k = 4 ∨ k = 5 ∨ k = 6 ∨ k = 7 ∨ (k < 1 ∨ 7 < k) := by omega
end Go.Proofs.YtjibbnknliamkaaGreatDoor
