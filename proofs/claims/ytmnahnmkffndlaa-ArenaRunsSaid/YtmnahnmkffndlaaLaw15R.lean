/- The walk of ArenaRuns. -/
import Derived.Test.YtmnahnmkffndlaaArU
namespace Go.Proofs.Ytmnahnmkffndlaa
open Go.RowKit Go.Maps
set_option linter.unusedVariables false
set_option linter.unusedSimpArgs false
theorem m3r (n : Int) : bits .and .i64 n 7 = n % 8 := i64_mask 3 (by decide) n
theorem m2r (n : Int) : bits .and .i64 n 3 = n % 4 := i64_mask 2 (by decide) n
theorem m16r (n : Int) : bits .and .i64 n 65535 = n % 65536 := i64_mask 16 (by decide) n
theorem m5r (n : Int) : bits .and .i64 n 31 = n % 32 := i64_mask 5 (by decide) n
theorem m1r (n : Int) : bits .and .i64 n 1 = n % 2 := i64_mask 1 (by decide) n
theorem ne_raa : 29 ≠ 58 := by decide
/-- 'make([]byte, n)': zeros of the call's own. -/
theorem wp_makeR {w : World} {ops : Array Oper} {rest : List Oper} {o : Oper} {a : Act} {Q : Exit → Act → World → Prop} (hgd : o.guard = none) (l c : Operand)
    (ho : o.op = Op.makeSlice 31 l c) (N : Nat) (hl : a.eval l = .int .i64 (N : Int)) (hc : a.eval c = .int .i64 (N : Int)) (hN : N ≤ 281474976710656)
    (h : ∀ w' : World, Own w.heap.size (List.replicate N 0) (.slice (some ⟨w.heap.size, 0, none⟩) N N) w' → Below w.heap.size w w' → wpList Try.prog ops Q rest (a.put o.dst (.slice (some ⟨w.heap.size, 0, none⟩) N N)) w') : wpList Try.prog ops Q (o :: rest) a w := by
  obtain ⟨i0, hi, hz0, hz1, hz2⟩ := info_parts info_u8
  refine wpList_make_full w hgd l c 31 ho w.heap.size 5 i0 (.int .u8 0) 1 Try.underlying31 hi hz0 hz1 .i64 .i64 N N N hl hc rfl rfl (by rw [hz2]; omega) (by unfold maxLen; omega) (Nat.le_refl _) ?_
  intro w1 hown hgrow
  refine h w1 ⟨fun n hn => ?_, ?_⟩ ((Below.refl _ _).grown hgrow (Nat.le_refl _) (fun _ h => by cases h))
  · rw [List.eq_of_mem_replicate hn]; omega
  · rw [show (Value.int .u8 0).cells = #[Value.int .u8 0] from rfl, toList_madeCells_one, Nat.mul_one] at hown
    have e : cells8 (List.replicate N 0) = List.replicate N (Value.int .u8 0) := by simp [cells8]
    rw [e, List.length_replicate]
    exact hown
/-- Both arenas between two calls. -/
structure St (w : World) (g bm hb : Nat) (C lo : Int) (L : List Pg) (M : List PM) (R : Int) (v : Value) (wr : World) : Prop where
  ar : ArAt 0 g bm C lo L wr
  ty : TyAt hb #[.int .i64 C, v] 29 wr
  own : OwnPM 0 M v wr
  pm : PmAt 0 M L wr
  gd : Gd R L
  bel : Below w.heap.size w wr
theorem St.go {w : World} {g bm hb : Nat} {C lo : Int} {L : List Pg} {M : List PM} {R : Int} {v : Value} {wr wr' : World} (h : St w g bm hb C lo L M R v wr) (hb' : Below wr.heap.size wr wr') : St w g bm hb C lo L M R v wr' :=
  ⟨h.ar.below hb', h.ty.go hb', h.own.below hb', h.pm.kpb (KpB.below hb'), h.gd, bgo h.bel hb'⟩
/-- Behind a call of the program's: the reference is as it was. -/
structure Mid (w : World) (g bm hb : Nat) (C lo : Int) (L L' : List Pg) (M : List PM) (v : Value) (wr : World) : Prop where
  ar : ArAt 0 g bm C lo L' wr
  ty : TyAt hb #[.int .i64 C, v] 29 wr
  own : OwnPM 0 M v wr
  pm : PmAt 0 M L wr
  bel : Below w.heap.size w wr
theorem St.mid {w : World} {g bm hb : Nat} {C lo lo' : Int} {L L' : List Pg} {M : List PM} {R : Int} {v : Value} {wr wr' : World} (h : St w g bm hb C lo L M R v wr) (ht : Tn g bm wr wr') (ha : ArAt 0 g bm C lo' L' wr') (h1 : w.heap.size ≤ g) (h2 : w.heap.size ≤ bm) : Mid w g bm hb C lo' L L' M v wr' :=
  ⟨ha, (KpT.tn ne_raa h.ar ht).ty h.ty, h.own.kpt (KpT.tn ne_arp h.ar ht), h.pm.kpb (KpT.tn ne_ar8 h.ar ht), bTn h.bel ht h1 h2⟩
/-- Behind the reference's call. -/
theorem Mid.fin {w : World} {g bm hb : Nat} {C lo : Int} {L L' : List Pg} {M M' : List PM} {R : Int} {v v' : Value} {wr w2 : World} (h : Mid w g bm hb C lo L L' M v wr) (hb2 : Below wr.heap.size wr w2) (ho : OwnPM 0 M' v' w2) (hp : PmAt 0 M' L' w2) (hg : Gd R L') (hh : w.heap.size ≤ hb) (o : Obj) :
    St w g bm hb C lo L' M' R v' (((w2.setCell ⟨hb, 0, none⟩ (.int .i64 C)).setCell ⟨hb, 1, none⟩ v').alloc o) := by
  have t2 := h.ty.go hb2
  have t3 := t2.set1 0 (.int .i64 C)
  have t4 := t3.set1 1 v'
  have hk : ∀ T, T ≠ 29 → KpT T w2 ((w2.setCell ⟨hb, 0, none⟩ (.int .i64 C)).setCell ⟨hb, 1, none⟩ v') := fun T hT => (t2.kpt hT 0 _).trans (t3.kpt hT 1 _)
  have ha := h.ar.below hb2
  obtain ⟨cu, hc, he⟩ := ha.row
  have hbm : bm ≠ hb := fun e => by
    obtain ⟨es, cl, hm⟩ := ha.map.isMap
    rw [e] at hm
    have := t2
    unfold TyAt at this
    rw [hm] at this
    cases this
  have o1 := (oth_cell hb 0 w2 (.int .i64 C)).2 bm hbm
  have o2 := (oth_cell hb 1 (w2.setCell ⟨hb, 0, none⟩ (.int .i64 C)) v').2 bm hbm
  have e : ((#[.int .i64 C, v] : Array Value).setIfInBounds 0 (.int .i64 C)).setIfInBounds 1 v' = #[.int .i64 C, v'] := by simp
  rw [e] at t4
  have h3 : St w g bm hb C lo L' M' R v' ((w2.setCell ⟨hb, 0, none⟩ (.int .i64 C)).setCell ⟨hb, 1, none⟩ v') := ⟨ha.keep (hk _ ne_raa.symm g cu hc) (o2.trans o1) (hk _ ne_8ra), t4, ho.kpt (hk _ ne_pra), hp.kpb (hk _ ne_8ra), hg, bset (bset (bgo h.bel hb2) _ _ _ hh) _ _ _ hh⟩
  exact h3.go (Go.Proofs.Ytmnahnmkffndlaa.b1 o)
theorem Own.strD {B : Nat} {L : List Int} {v : Value} {w : World} (h : Own B L v w) : (convert 31 9 v).run Try.prog w = .ok (.string (strOfNums L)) w := h.rd.conv
set_option maxRecDepth 100000 in
set_option maxHeartbeats 8000000 in
theorem arenaRuns_walk (c : Int) (a : Option Addr) (n cap : Nat) (z : List Int) (W : World) (hcw : (Lit.int .i64 c).wf = true) (hz : InRow .i64 W a n cap z) :
    Calls Try.prog 3 #[.int .i64 c, .slice a n cap] W fun e w' => e = .returned (.bool true) ∧ Below W.heap.size W w' := by
  have hm := m3r c
  obtain ⟨C, hC⟩ : ∃ C, c % 8 = C := ⟨_, rfl⟩
  have hC0 : 0 ≤ C ∧ C ≤ 7 := by omega
  rw [hC] at hm
  clear hC hcw
  have hnew := arNew_any C W hC0.1 (by omega)
  have HZ := Lib.hid hz
  have hn : (n : Int) ≤ 9223372036854775807 := by
    have h1 := hz.1
    have h2 := hz.2.1
    unfold maxLen at h2
    omega
  clear hz
  go_enter Try.func3, Try.ntmps3
  go_wp2_with (go_at_call 7; refine hnew.mono ?_; rintro e w1 ⟨rfl, a1, b1', hs1⟩; have A1 := Lib.hid (a1 0); have B1 := Lib.hid b1'; have HS1 := Lib.hid hs1; clear a1 b1' hs1 hnew)
  have S0 : Hid (St W (W.heap.size + 1) W.heap.size w1.heap.size C 1 [] [] 1 (.slice none 0 0) (w1.alloc (.cells #[.int .i64 C, .slice none 0 0] 29))) := Lib.hid ⟨A1.out.below (Go.Proofs.Ytmnahnmkffndlaa.b1 _), TyAt.new w1 _ _, OwnPM.empty _ _, trivial, Gd.nil _, bal B1.out _⟩
  have HHB : Hid (W.heap.size ≤ w1.heap.size) := Lib.hid B1.out.size
  clear A1 B1 HS1
  generalize w1.heap.size = hb at S0 HHB
  go_loopw [9] (fun i wr => ∃ (q : Nat) (L : List Pg) (lo : Int) (M : List PM) (av : Option Addr) (cv : Nat), q ≤ 30 ∧ i = .int .i64 (q : Int) ∧ Hid (St W (W.heap.size + 1) W.heap.size hb C lo L M ((q : Int) + 1) (.slice av L.length cv) wr)) (fun i _ => 30 - (intOf i).toNat)
  case atStart => exact ⟨0, [], 1, [], none, 0, by omega, rfl, by simpa using S0⟩
  case round =>
    obtain ⟨q, L, lo, M, av, cv, hq, rfl, HS⟩ := hrel
    by_cases hqn : q < n
    · by_cases hq30 : q < 30
      · have hqi : (q : Int) < (n : Int) := by omega
        have hqj : (q : Int) < 30 := by omega
        obtain ⟨b, off, rfl, hlt, hcell⟩ := HZ.out.at_ (by omega) HS.out.bel
        have hcx := hcell q hqn
        have hlt2 : b < wr.heap.size := Nat.lt_of_lt_of_le hlt HS.out.bel.size
        obtain ⟨x, hx⟩ : ∃ x, z.getD q 0 = x := ⟨_, rfl⟩
        rw [hx] at hcx
        clear hcell hx hlt hqn
        have hk := m3r (x / 4)
        obtain ⟨k, hkk⟩ : ∃ k, x / 4 % 8 = k := ⟨_, rfl⟩
        have hk0 : 0 ≤ k ∧ k ≤ 7 := by omega
        rw [hkk] at hk
        have HIK : Hid (InI k) := Lib.hid ⟨by omega, by omega⟩
        clear hkk
        have r0 := HS.out.ty.row.cell (j := 0) rfl
        have r1 := HS.out.ty.row.cell (j := 1) rfl
        have lt1 := HS.out.ty.lt
        have HLL : Hid ((L.length : Int) ≤ C ∧ C ≤ 7) := Lib.hid ⟨HS.out.ar.cap.2.2, hC0.2⟩
        have hs := m2r x
        have h4 : x % 4 = 0 ∨ x % 4 = 1 ∨ x % 4 = 2 ∨ x % 4 = 3 := by omega
        rcases h4 with h | h | h | h
        · rw [h] at hs
          have s16 := m16r (x / 32)
          have s5 := m5r (x / 2097152)
          have s1 := m1r (x / 67108864)
          have hb16 : 0 ≤ x / 32 % 65536 ∧ x / 32 % 65536 ≤ 65535 := by omega
          generalize x / 32 % 65536 = y16 at s16 hb16
          obtain ⟨N1, hN1⟩ : ∃ N1 : Nat, x / 67108864 % 2 = (N1 : Int) := ⟨(x / 67108864 % 2).toNat, by omega⟩
          have hN2 : N1 ≤ 1 := by omega
          rw [hN1] at s1
          clear hN1
          have HMk : Hid ((1024 : Int) + (N1 : Int) = ((1024 + N1 : Nat) : Int)) := Lib.hid (by omega)
          have hN3 : (N1 : Int) ≤ 1 := by omega
          have hN4 : (0 : Int) ≤ (N1 : Int) := by omega
          by_cases h31 : x / 2097152 % 32 = 31
          · rw [h31] at s5
            go_upto_region 17 with (first
              | (go_at_call 8; refine (bytes_own y16 wr hb16.1 hb16.2).mono ?_; rintro e w2 ⟨D2, v2, hD2, rfl, o2, hb2⟩; obtain ⟨a2, c2, rfl⟩ := o2.shape; have O2 := Lib.hid o2; have HD2 := Lib.hid hD2; have S2 := Lib.hid (HS.out.go hb2); have X2 := Lib.hid (hb2.cell (p := ⟨b, off + q, none⟩) hlt2); clear o2 hb2 hD2)
              | (at_make; refine wp_makeR rfl _ _ rfl (1024 + N1) (congrArg (Value.int .i64) HMk.out) (congrArg (Value.int .i64) HMk.out) (by omega) ?_; intro w3 o3 hb3; have O3 := Lib.hid o3; have S3 := Lib.hid (S2.out.go hb3); clear o3 hb3; go_frame))
            have HOD : Hid (Own 0 (List.replicate (1024 + N1) (0 : Int)) (.slice (some ⟨w2.heap.size, 0, none⟩) (1024 + N1) (1024 + N1)) _) := Lib.hid (O3.out.mono (Nat.zero_le _))
            have hDl : (List.replicate (1024 + N1) (0 : Int)).length ≤ 1000000000000 := by simp; omega
            have HAS := Lib.hid S3.out.ar.asc
            have hpa := palloc_any S3.out.ar 0 (List.replicate (1024 + N1) (0 : Int)) _ HOD.out hDl (Nat.zero_le _)
            have HRA : Hid (∀ w4, OwnPM 0 M (.slice av L.length cv) w4 → PmAt 0 M L w4 → Own 0 (List.replicate (1024 + N1) (0 : Int)) (.slice (some ⟨w2.heap.size, 0, none⟩) (1024 + N1) (1024 + N1)) w4 → _) := Lib.hid (fun w4 h1 h2 h3 => ralloc_any M L C _ w4 0 (List.replicate (1024 + N1) (0 : Int)) _ h1 h2 HAS.out HLL.out.1 (by have := HLL.out.2; omega) h3 hDl)
            have HGD := Lib.hid ((S3.out.gd.al (by omega) C (List.replicate (1024 + N1) (0 : Int))).mono (show (q : Int) + 1 ≤ (q : Int) + 1 + 1 by omega))
            clear hDl
            generalize alX L C (List.replicate (1024 + N1) (0 : Int)) = X5 at hpa HRA
            generalize alF L C (List.replicate (1024 + N1) (0 : Int)) = F5 at hpa HRA
            generalize alL L C (List.replicate (1024 + N1) (0 : Int)) = LN at hpa HRA HGD
            go_upto_region 32 with (first
              | (go_at_call 9; (with_reducible refine hpa.mono ?_); rintro e w4 ⟨lo5, rfl, a4, t4⟩; have OD4 := Lib.hid (HOD.out.kpb (KpT.tn ne_ar8 S3.out.ar t4)); have M4 := Lib.hid (S3.out.mid t4 a4 (by omega) (by omega)); have q0 := M4.out.ty.row.cell (j := 0) rfl; have q1 := M4.out.ty.row.cell (j := 1) rfl; have ltq := M4.out.ty.lt; clear a4 t4 hpa)
              | (go_at_call 10; (with_reducible refine (HRA.out w4 M4.out.own M4.out.pm OD4.out).mono ?_); rintro e w5 ⟨v6, M6, rfl, o5, p5, hb5⟩; obtain ⟨a6, c6, rfl⟩ := o5.rd.shape; have hl6 := p5.len; rw [hl6] at o5 ⊢; have t5 := M4.out.ty.go hb5; have p0 := t5.row.cell (j := 0) rfl; have p1 := t5.row.cell (j := 1) rfl; have p2 := t5.row.open_ 0; have p3 := t5.row.open_ 1; have ltp := t5.lt; have HF := Lib.hid (M4.out.fin hb5 o5 p5 HGD.out HHB.out (.cells #[.int .i64 C, .slice a6 LN.length c6] 29)); clear t5 hb5 o5 p5 hl6))
            clear q0 q1 ltq p0 p1 p2 p3 ltp
            refine wp_genW (fun w7 => St W (W.heap.size + 1) W.heap.size hb C lo5 LN M6 ((q : Int) + 1 + 1) (.slice a6 LN.length c6) w7) HF.out ?_
            rintro w7 s7
            have S7 := Lib.hid s7
            have u1 := s7.ty.row.cell (j := 1) rfl
            have HCW : Hid (∀ w', Below w7.heap.size w7 w' → w'.cell? ⟨hb, 1, none⟩ = some (.slice a6 LN.length c6)) := Lib.hid (fun w' hbw => (S7.out.ty.go hbw).row.cell (j := 1) rfl)
            have u2 := HCW.out w7.drew (below_drew (Below.refl _ _))
            have lt7 := s7.ty.lt
            have HL7 := Lib.hid (show LN.length ≤ 1000000 by have := s7.ar.cap; omega)
            have HDU := Lib.hid (dump_any (S7.out.ar.below (w' := w7.drew) (below_drew (Below.refl w7.heap.size w7))) (fun p hp => by have := (S7.out.gd p hp).1; omega))
            have HLI := Lib.hid (live_any (S7.out.ar.below (w' := w7.drew) (below_drew (Below.refl w7.heap.size w7))))
            clear s7 r0 r1 hcx hk hk0 hs lt1 hlt2
            go_region_held3 (fun w' => w'.cell? ⟨hb, 1, none⟩ = some (.slice a6 LN.length c6)) (first | with_reducible assumption | go_keep) (first
              | (go_at_call 17; (with_reducible refine HLI.out.mono ?_); rintro e w8 ⟨rfl, rfl⟩)
              | (go_at_call 19; (with_reducible refine HDU.out.mono ?_); rintro e w8 ⟨v8, M8, rfl, o8, p8, hb8⟩; have O8 := Lib.hid o8; have P8 := Lib.hid p8; have B8 : Hid (Below w7.heap.size w7 w8) := Lib.hid ((below_drew (Below.refl w7.heap.size w7)).trans hb8); have u3 := HCW.out w8 B8.out; clear o8 p8 hb8)
              | (go_at_call 18; (with_reducible refine (same_pgs M8 M6 LN _ _ _ (O8.out.mono (Nat.zero_le _)) (S7.out.own.below B8.out) (P8.out.mono (Nat.zero_le _)) (S7.out.pm.kpb (KpB.below B8.out)) HL7.out).mono ?_); rintro e w9 ⟨rfl, hb9⟩; have B9 : Hid (Below w7.heap.size w7 w9) := Lib.hid (bgo B8.out hb9); have u4 := HCW.out w9 B9.out; clear hb9))
            all_goals
              have HFN : Hid (St W (W.heap.size + 1) W.heap.size hb C lo5 LN M6 (((q + 1 : Nat) : Int) + 1) (.slice a6 LN.length c6) w9) := Lib.hid (by
                have h := S7.out.go B9.out
                rw [show (((q + 1 : Nat) : Int) + 1) = (q : Int) + 1 + 1 by omega]
                exact h)
              clear u1 u2 u3 u4 lt7
              go_wp2
              go_roundw
              case rel => exact ⟨q + 1, LN, lo5, M6, a6, c6, by omega, by go_num, HFN⟩
              case measure => simp [intOf]; omega
          · generalize x / 2097152 % 32 = y5 at s5 h31
            go_upto_region 17 with (first
              | (go_at_call 8; refine (bytes_own y16 wr hb16.1 hb16.2).mono ?_; rintro e w2 ⟨D2, v2, hD2, rfl, o2, hb2⟩; obtain ⟨a2, c2, rfl⟩ := o2.shape; have O2 := Lib.hid o2; have HD2 := Lib.hid hD2; have S2 := Lib.hid (HS.out.go hb2); have X2 := Lib.hid (hb2.cell (p := ⟨b, off + q, none⟩) hlt2); clear o2 hb2 hD2)
              | (at_make; refine wp_makeR rfl _ _ rfl (1024 + N1) (congrArg (Value.int .i64) HMk.out) (congrArg (Value.int .i64) HMk.out) (by omega) ?_; intro w3 o3 hb3; have O3 := Lib.hid o3; have S3 := Lib.hid (S2.out.go hb3); clear o3 hb3; go_frame))
            have HOD : Hid (Own 0 (D2) (.slice a2 D2.length c2) _) := Lib.hid (O2.out.mono (Nat.zero_le _))
            have hDl : (D2).length ≤ 1000000000000 := by have := HD2.out; omega
            have HAS := Lib.hid S2.out.ar.asc
            have hpa := palloc_any S2.out.ar 0 (D2) _ HOD.out hDl (Nat.zero_le _)
            have HRA : Hid (∀ w4, OwnPM 0 M (.slice av L.length cv) w4 → PmAt 0 M L w4 → Own 0 (D2) (.slice a2 D2.length c2) w4 → _) := Lib.hid (fun w4 h1 h2 h3 => ralloc_any M L C _ w4 0 (D2) _ h1 h2 HAS.out HLL.out.1 (by have := HLL.out.2; omega) h3 hDl)
            have HGD := Lib.hid ((S2.out.gd.al (by omega) C (D2)).mono (show (q : Int) + 1 ≤ (q : Int) + 1 + 1 by omega))
            clear hDl
            generalize alX L C (D2) = X5 at hpa HRA
            generalize alF L C (D2) = F5 at hpa HRA
            generalize alL L C (D2) = LN at hpa HRA HGD
            go_upto_region 32 with (first
              | (go_at_call 9; (with_reducible refine hpa.mono ?_); rintro e w4 ⟨lo5, rfl, a4, t4⟩; have OD4 := Lib.hid (HOD.out.kpb (KpT.tn ne_ar8 S2.out.ar t4)); have M4 := Lib.hid (S2.out.mid t4 a4 (by omega) (by omega)); have q0 := M4.out.ty.row.cell (j := 0) rfl; have q1 := M4.out.ty.row.cell (j := 1) rfl; have ltq := M4.out.ty.lt; clear a4 t4 hpa)
              | (go_at_call 10; (with_reducible refine (HRA.out w4 M4.out.own M4.out.pm OD4.out).mono ?_); rintro e w5 ⟨v6, M6, rfl, o5, p5, hb5⟩; obtain ⟨a6, c6, rfl⟩ := o5.rd.shape; have hl6 := p5.len; rw [hl6] at o5 ⊢; have t5 := M4.out.ty.go hb5; have p0 := t5.row.cell (j := 0) rfl; have p1 := t5.row.cell (j := 1) rfl; have p2 := t5.row.open_ 0; have p3 := t5.row.open_ 1; have ltp := t5.lt; have HF := Lib.hid (M4.out.fin hb5 o5 p5 HGD.out HHB.out (.cells #[.int .i64 C, .slice a6 LN.length c6] 29)); clear t5 hb5 o5 p5 hl6))
            clear q0 q1 ltq p0 p1 p2 p3 ltp
            refine wp_genW (fun w7 => St W (W.heap.size + 1) W.heap.size hb C lo5 LN M6 ((q : Int) + 1 + 1) (.slice a6 LN.length c6) w7) HF.out ?_
            rintro w7 s7
            have S7 := Lib.hid s7
            have u1 := s7.ty.row.cell (j := 1) rfl
            have HCW : Hid (∀ w', Below w7.heap.size w7 w' → w'.cell? ⟨hb, 1, none⟩ = some (.slice a6 LN.length c6)) := Lib.hid (fun w' hbw => (S7.out.ty.go hbw).row.cell (j := 1) rfl)
            have u2 := HCW.out w7.drew (below_drew (Below.refl _ _))
            have lt7 := s7.ty.lt
            have HL7 := Lib.hid (show LN.length ≤ 1000000 by have := s7.ar.cap; omega)
            have HDU := Lib.hid (dump_any (S7.out.ar.below (w' := w7.drew) (below_drew (Below.refl w7.heap.size w7))) (fun p hp => by have := (S7.out.gd p hp).1; omega))
            have HLI := Lib.hid (live_any (S7.out.ar.below (w' := w7.drew) (below_drew (Below.refl w7.heap.size w7))))
            clear s7 r0 r1 hcx hk hk0 hs lt1 hlt2
            go_region_held3 (fun w' => w'.cell? ⟨hb, 1, none⟩ = some (.slice a6 LN.length c6)) (first | with_reducible assumption | go_keep) (first
              | (go_at_call 17; (with_reducible refine HLI.out.mono ?_); rintro e w8 ⟨rfl, rfl⟩)
              | (go_at_call 19; (with_reducible refine HDU.out.mono ?_); rintro e w8 ⟨v8, M8, rfl, o8, p8, hb8⟩; have O8 := Lib.hid o8; have P8 := Lib.hid p8; have B8 : Hid (Below w7.heap.size w7 w8) := Lib.hid ((below_drew (Below.refl w7.heap.size w7)).trans hb8); have u3 := HCW.out w8 B8.out; clear o8 p8 hb8)
              | (go_at_call 18; (with_reducible refine (same_pgs M8 M6 LN _ _ _ (O8.out.mono (Nat.zero_le _)) (S7.out.own.below B8.out) (P8.out.mono (Nat.zero_le _)) (S7.out.pm.kpb (KpB.below B8.out)) HL7.out).mono ?_); rintro e w9 ⟨rfl, hb9⟩; have B9 : Hid (Below w7.heap.size w7 w9) := Lib.hid (bgo B8.out hb9); have u4 := HCW.out w9 B9.out; clear hb9))
            all_goals
              have HFN : Hid (St W (W.heap.size + 1) W.heap.size hb C lo5 LN M6 (((q + 1 : Nat) : Int) + 1) (.slice a6 LN.length c6) w9) := Lib.hid (by
                have h := S7.out.go B9.out
                rw [show (((q + 1 : Nat) : Int) + 1) = (q : Int) + 1 + 1 by omega]
                exact h)
              clear u1 u2 u3 u4 lt7
              go_wp2
              go_roundw
              case rel => exact ⟨q + 1, LN, lo5, M6, a6, c6, by omega, by go_num, HFN⟩
              case measure => simp [intOf]; omega
        · rw [h] at hs
          have HAS := Lib.hid HS.out.ar.asc
          have HLE := Lib.hid (show L.length ≤ 1000000 by have := HLL.out; omega)
          have hRq : (q : Int) + 1 < 4611686018427387904 := by omega
          have hpa := phold_any HS.out.ar k HIK.out HS.out.gd hRq
          have HRA : Hid (∀ w4, OwnPM 0 M (.slice av L.length cv) w4 → PmAt 0 M L w4 → _) := Lib.hid (fun w4 h1 h2 => rhold_any M L C k _ w4 h1 h2 HAS.out HLE.out HS.out.gd hRq)
          have HGD := Lib.hid (HS.out.gd.ho k)
          clear hRq
          generalize hoF L k = F5 at hpa HRA
          generalize hoL L k = LN at hpa HRA HGD
          obtain ⟨lo5, hlo⟩ : ∃ lo5, lo5 = lo := ⟨_, rfl⟩
          rw [← hlo] at hpa
          clear hlo
          go_upto_region 32 with (first
            | (go_at_call 11; (with_reducible refine hpa.mono ?_); rintro e w4 ⟨rfl, a4, t4⟩; have M4 := Lib.hid (HS.out.mid t4 a4 (by omega) (by omega)); have q0 := M4.out.ty.row.cell (j := 0) rfl; have q1 := M4.out.ty.row.cell (j := 1) rfl; have ltq := M4.out.ty.lt; clear a4 t4 hpa)
            | (go_at_call 12; (with_reducible refine (HRA.out w4 M4.out.own M4.out.pm).mono ?_); rintro e w5 ⟨v6, M6, rfl, o5, p5, hb5⟩; obtain ⟨a6, c6, rfl⟩ := o5.rd.shape; have hl6 := p5.len; rw [hl6] at o5 ⊢; have t5 := M4.out.ty.go hb5; have p0 := t5.row.cell (j := 0) rfl; have p1 := t5.row.cell (j := 1) rfl; have p2 := t5.row.open_ 0; have p3 := t5.row.open_ 1; have ltp := t5.lt; have HF := Lib.hid (M4.out.fin hb5 o5 p5 HGD.out HHB.out (.cells #[.int .i64 C, .slice a6 LN.length c6] 29)); clear t5 hb5 o5 p5 hl6))
          clear q0 q1 ltq p0 p1 p2 p3 ltp
          refine wp_genW (fun w7 => St W (W.heap.size + 1) W.heap.size hb C lo5 LN M6 ((q : Int) + 1 + 1) (.slice a6 LN.length c6) w7) HF.out ?_
          rintro w7 s7
          have S7 := Lib.hid s7
          have u1 := s7.ty.row.cell (j := 1) rfl
          have HCW : Hid (∀ w', Below w7.heap.size w7 w' → w'.cell? ⟨hb, 1, none⟩ = some (.slice a6 LN.length c6)) := Lib.hid (fun w' hbw => (S7.out.ty.go hbw).row.cell (j := 1) rfl)
          have u2 := HCW.out w7.drew (below_drew (Below.refl _ _))
          have lt7 := s7.ty.lt
          have HL7 := Lib.hid (show LN.length ≤ 1000000 by have := s7.ar.cap; omega)
          have HDU := Lib.hid (dump_any (S7.out.ar.below (w' := w7.drew) (below_drew (Below.refl w7.heap.size w7))) (fun p hp => by have := (S7.out.gd p hp).1; omega))
          have HLI := Lib.hid (live_any (S7.out.ar.below (w' := w7.drew) (below_drew (Below.refl w7.heap.size w7))))
          clear s7 r0 r1 hcx hk hk0 hs lt1 hlt2
          go_region_held3 (fun w' => w'.cell? ⟨hb, 1, none⟩ = some (.slice a6 LN.length c6)) (first | with_reducible assumption | go_keep) (first
            | (go_at_call 17; (with_reducible refine HLI.out.mono ?_); rintro e w8 ⟨rfl, rfl⟩)
            | (go_at_call 19; (with_reducible refine HDU.out.mono ?_); rintro e w8 ⟨v8, M8, rfl, o8, p8, hb8⟩; have O8 := Lib.hid o8; have P8 := Lib.hid p8; have B8 : Hid (Below w7.heap.size w7 w8) := Lib.hid ((below_drew (Below.refl w7.heap.size w7)).trans hb8); have u3 := HCW.out w8 B8.out; clear o8 p8 hb8)
            | (go_at_call 18; (with_reducible refine (same_pgs M8 M6 LN _ _ _ (O8.out.mono (Nat.zero_le _)) (S7.out.own.below B8.out) (P8.out.mono (Nat.zero_le _)) (S7.out.pm.kpb (KpB.below B8.out)) HL7.out).mono ?_); rintro e w9 ⟨rfl, hb9⟩; have B9 : Hid (Below w7.heap.size w7 w9) := Lib.hid (bgo B8.out hb9); have u4 := HCW.out w9 B9.out; clear hb9))
          all_goals
            have HFN : Hid (St W (W.heap.size + 1) W.heap.size hb C lo5 LN M6 (((q + 1 : Nat) : Int) + 1) (.slice a6 LN.length c6) w9) := Lib.hid (by
              have h := S7.out.go B9.out
              rw [show (((q + 1 : Nat) : Int) + 1) = (q : Int) + 1 + 1 by omega]
              exact h)
            clear u1 u2 u3 u4 lt7
            go_wp2
            go_roundw
            case rel => exact ⟨q + 1, LN, lo5, M6, a6, c6, by omega, by go_num, HFN⟩
            case measure => simp [intOf]; omega
        · rw [h] at hs
          have HAS := Lib.hid HS.out.ar.asc
          have HLE := Lib.hid (show L.length ≤ 1000000 by have := HLL.out; omega)
          have hRq : (q : Int) + 1 < 4611686018427387904 := by omega
          have hpa := prel_any HS.out.ar k HIK.out
          have HRA : Hid (∀ w4, OwnPM 0 M (.slice av L.length cv) w4 → PmAt 0 M L w4 → _) := Lib.hid (fun w4 h1 h2 => rrel_any M L C k _ w4 h1 h2 HAS.out HLE.out HS.out.gd hRq)
          have HGD := Lib.hid ((HS.out.gd.re k).mono (show (q : Int) + 1 ≤ (q : Int) + 1 + 1 by omega))
          clear hRq
          generalize hoF L k = F5 at hpa HRA
          generalize reB L k = B5 at hpa HRA
          generalize reL L k = LN at hpa HRA HGD
          go_upto_region 32 with (first
            | (go_at_call 13; (with_reducible refine hpa.mono ?_); rintro e w4 ⟨lo5, rfl, a4, t4⟩; have M4 := Lib.hid (HS.out.mid t4 a4 (by omega) (by omega)); have q0 := M4.out.ty.row.cell (j := 0) rfl; have q1 := M4.out.ty.row.cell (j := 1) rfl; have ltq := M4.out.ty.lt; clear a4 t4 hpa)
            | (go_at_call 14; (with_reducible refine (HRA.out w4 M4.out.own M4.out.pm).mono ?_); rintro e w5 ⟨v6, M6, rfl, o5, p5, hb5⟩; obtain ⟨a6, c6, rfl⟩ := o5.rd.shape; have hl6 := p5.len; rw [hl6] at o5 ⊢; have t5 := M4.out.ty.go hb5; have p0 := t5.row.cell (j := 0) rfl; have p1 := t5.row.cell (j := 1) rfl; have p2 := t5.row.open_ 0; have p3 := t5.row.open_ 1; have ltp := t5.lt; have HF := Lib.hid (M4.out.fin hb5 o5 p5 HGD.out HHB.out (.cells #[.int .i64 C, .slice a6 LN.length c6] 29)); clear t5 hb5 o5 p5 hl6))
          clear q0 q1 ltq p0 p1 p2 p3 ltp
          refine wp_genW (fun w7 => St W (W.heap.size + 1) W.heap.size hb C lo5 LN M6 ((q : Int) + 1 + 1) (.slice a6 LN.length c6) w7) HF.out ?_
          rintro w7 s7
          have S7 := Lib.hid s7
          have u1 := s7.ty.row.cell (j := 1) rfl
          have HCW : Hid (∀ w', Below w7.heap.size w7 w' → w'.cell? ⟨hb, 1, none⟩ = some (.slice a6 LN.length c6)) := Lib.hid (fun w' hbw => (S7.out.ty.go hbw).row.cell (j := 1) rfl)
          have u2 := HCW.out w7.drew (below_drew (Below.refl _ _))
          have lt7 := s7.ty.lt
          have HL7 := Lib.hid (show LN.length ≤ 1000000 by have := s7.ar.cap; omega)
          have HDU := Lib.hid (dump_any (S7.out.ar.below (w' := w7.drew) (below_drew (Below.refl w7.heap.size w7))) (fun p hp => by have := (S7.out.gd p hp).1; omega))
          have HLI := Lib.hid (live_any (S7.out.ar.below (w' := w7.drew) (below_drew (Below.refl w7.heap.size w7))))
          clear s7 r0 r1 hcx hk hk0 hs lt1 hlt2
          go_region_held3 (fun w' => w'.cell? ⟨hb, 1, none⟩ = some (.slice a6 LN.length c6)) (first | with_reducible assumption | go_keep) (first
            | (go_at_call 17; (with_reducible refine HLI.out.mono ?_); rintro e w8 ⟨rfl, rfl⟩)
            | (go_at_call 19; (with_reducible refine HDU.out.mono ?_); rintro e w8 ⟨v8, M8, rfl, o8, p8, hb8⟩; have O8 := Lib.hid o8; have P8 := Lib.hid p8; have B8 : Hid (Below w7.heap.size w7 w8) := Lib.hid ((below_drew (Below.refl w7.heap.size w7)).trans hb8); have u3 := HCW.out w8 B8.out; clear o8 p8 hb8)
            | (go_at_call 18; (with_reducible refine (same_pgs M8 M6 LN _ _ _ (O8.out.mono (Nat.zero_le _)) (S7.out.own.below B8.out) (P8.out.mono (Nat.zero_le _)) (S7.out.pm.kpb (KpB.below B8.out)) HL7.out).mono ?_); rintro e w9 ⟨rfl, hb9⟩; have B9 : Hid (Below w7.heap.size w7 w9) := Lib.hid (bgo B8.out hb9); have u4 := HCW.out w9 B9.out; clear hb9))
          all_goals
            have HFN : Hid (St W (W.heap.size + 1) W.heap.size hb C lo5 LN M6 (((q + 1 : Nat) : Int) + 1) (.slice a6 LN.length c6) w9) := Lib.hid (by
              have h := S7.out.go B9.out
              rw [show (((q + 1 : Nat) : Int) + 1) = (q : Int) + 1 + 1 by omega]
              exact h)
            clear u1 u2 u3 u4 lt7
            go_wp2
            go_roundw
            case rel => exact ⟨q + 1, LN, lo5, M6, a6, c6, by omega, by go_num, HFN⟩
            case measure => simp [intOf]; omega
        · rw [h] at hs
          have HAS := Lib.hid HS.out.ar.asc
          have HLE := Lib.hid (show L.length ≤ 1000000 by have := HLL.out; omega)
          have hpa := pdata_any HS.out.ar k HIK.out HS.out.gd
          have HRA : Hid (∀ w4, OwnPM 0 M (.slice av L.length cv) w4 → PmAt 0 M L w4 → _) := Lib.hid (fun w4 h1 h2 => rdata_any M L C k _ w4 h1 h2 HAS.out HLE.out HS.out.gd)
          generalize hoF L k = F5 at hpa HRA
          generalize daD L k = D5 at hpa HRA
          generalize hsD : strOfNums D5 = sD
          have HSD := Lib.hid hsD
          clear hsD
          have HF0 := HS
          obtain ⟨LN, hLN⟩ : ∃ LN, LN = L := ⟨_, rfl⟩
          obtain ⟨lo5, hlo⟩ : ∃ lo5, lo5 = lo := ⟨_, rfl⟩
          obtain ⟨M6, hM6⟩ : ∃ M6, M6 = M := ⟨_, rfl⟩
          obtain ⟨a6, ha6⟩ : ∃ a6, a6 = av := ⟨_, rfl⟩
          obtain ⟨c6, hc6⟩ : ∃ c6, c6 = cv := ⟨_, rfl⟩
          have HEQ := Lib.hid (show LN = L ∧ lo5 = lo ∧ M6 = M ∧ a6 = av ∧ c6 = cv from ⟨hLN, hlo, hM6, ha6, hc6⟩)
          clear hLN hlo hM6 ha6 hc6
          go_upto_region 32 with (first
            | (go_at_call 15; (with_reducible refine hpa.mono ?_); rintro e w4 ⟨v4, rfl, o4, hb4⟩; obtain ⟨a4, c4, rfl⟩ := o4.shape; have O4 := Lib.hid o4; have S4 := Lib.hid (HS.out.go hb4); have q0 := S4.out.ty.row.cell (j := 0) rfl; have q1 := S4.out.ty.row.cell (j := 1) rfl; have ltq := S4.out.ty.lt; clear o4 hb4 hpa)
            | (go_at_call 16; (with_reducible refine (HRA.out w4 S4.out.own S4.out.pm).mono ?_); rintro e w5 ⟨v5, rfl, o5, hb5⟩; obtain ⟨a5, c5, rfl⟩ := o5.shape; have cv4 := (O4.out.below hb5).strD; have cv5 := o5.strD; rw [HSD.out] at cv4 cv5; have HF : Hid (St W (W.heap.size + 1) W.heap.size hb C lo5 LN M6 ((q : Int) + 1 + 1) (.slice a6 LN.length c6) w5) := Lib.hid (by obtain ⟨rfl, rfl, rfl, rfl, rfl⟩ := HEQ.out; have h := S4.out.go hb5; exact ⟨h.ar, h.ty, h.own, h.pm, h.gd.mono (by omega), h.bel⟩); clear o5 hb5))
          clear q0 q1 ltq cv4 cv5
          refine wp_genW (fun w7 => St W (W.heap.size + 1) W.heap.size hb C lo5 LN M6 ((q : Int) + 1 + 1) (.slice a6 LN.length c6) w7) HF.out ?_
          rintro w7 s7
          have S7 := Lib.hid s7
          have u1 := s7.ty.row.cell (j := 1) rfl
          have HCW : Hid (∀ w', Below w7.heap.size w7 w' → w'.cell? ⟨hb, 1, none⟩ = some (.slice a6 LN.length c6)) := Lib.hid (fun w' hbw => (S7.out.ty.go hbw).row.cell (j := 1) rfl)
          have u2 := HCW.out w7.drew (below_drew (Below.refl _ _))
          have lt7 := s7.ty.lt
          have HL7 := Lib.hid (show LN.length ≤ 1000000 by have := s7.ar.cap; omega)
          have HDU := Lib.hid (dump_any (S7.out.ar.below (w' := w7.drew) (below_drew (Below.refl w7.heap.size w7))) (fun p hp => by have := (S7.out.gd p hp).1; omega))
          have HLI := Lib.hid (live_any (S7.out.ar.below (w' := w7.drew) (below_drew (Below.refl w7.heap.size w7))))
          clear s7 r0 r1 hcx hk hk0 hs lt1 hlt2
          go_region_held3 (fun w' => w'.cell? ⟨hb, 1, none⟩ = some (.slice a6 LN.length c6)) (first | with_reducible assumption | go_keep) (first
            | (go_at_call 17; (with_reducible refine HLI.out.mono ?_); rintro e w8 ⟨rfl, rfl⟩)
            | (go_at_call 19; (with_reducible refine HDU.out.mono ?_); rintro e w8 ⟨v8, M8, rfl, o8, p8, hb8⟩; have O8 := Lib.hid o8; have P8 := Lib.hid p8; have B8 : Hid (Below w7.heap.size w7 w8) := Lib.hid ((below_drew (Below.refl w7.heap.size w7)).trans hb8); have u3 := HCW.out w8 B8.out; clear o8 p8 hb8)
            | (go_at_call 18; (with_reducible refine (same_pgs M8 M6 LN _ _ _ (O8.out.mono (Nat.zero_le _)) (S7.out.own.below B8.out) (P8.out.mono (Nat.zero_le _)) (S7.out.pm.kpb (KpB.below B8.out)) HL7.out).mono ?_); rintro e w9 ⟨rfl, hb9⟩; have B9 : Hid (Below w7.heap.size w7 w9) := Lib.hid (bgo B8.out hb9); have u4 := HCW.out w9 B9.out; clear hb9))
          all_goals
            have HFN : Hid (St W (W.heap.size + 1) W.heap.size hb C lo5 LN M6 (((q + 1 : Nat) : Int) + 1) (.slice a6 LN.length c6) w9) := Lib.hid (by
              have h := S7.out.go B9.out
              rw [show (((q + 1 : Nat) : Int) + 1) = (q : Int) + 1 + 1 by omega]
              exact h)
            clear u1 u2 u3 u4 lt7
            go_wp2
            go_roundw
            case rel => exact ⟨q + 1, LN, lo5, M6, a6, c6, by omega, by go_num, HFN⟩
            case measure => simp [intOf]; omega
      · obtain rfl : q = 30 := by omega
        have hqi : (30 : Int) < (n : Int) ∨ (n : Int) ≤ 30 := by omega
        go_wp2_with (go_at_call 20; refine (known15_any _).mono ?_; rintro e w9 ⟨rfl, b9⟩; have B9 := Lib.hid (bgo HS.out.bel b9); clear b9)
        go_ret
        exact ⟨rfl, B9.out⟩
    · have hqi : ¬ (q : Int) < (n : Int) := by omega
      go_wp2_with (go_at_call 20; refine (known15_any _).mono ?_; rintro e w9 ⟨rfl, b9⟩; have B9 := Lib.hid (bgo HS.out.bel b9); clear b9)
      go_ret
      exact ⟨rfl, B9.out⟩
end Go.Proofs.Ytmnahnmkffndlaa
