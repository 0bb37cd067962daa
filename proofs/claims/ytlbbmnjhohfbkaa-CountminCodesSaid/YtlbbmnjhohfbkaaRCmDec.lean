/- The contract of the reference's DecodeCountMin. -/
import Derived.Test.YtlbbmnjhohfbkaaRCmDecN
import Derived.Test.YtlbbmnjhohfbkaaCmDec
namespace Go.Proofs.Ytlbbmnjhohfbkaa
open Go.RowKit
set_option linter.unusedVariables false
set_option linter.unusedSimpArgs false
/-- What is known behind the head: a wrong one is refused. -/
def RHd (L : List Int) (d s x : Int) (b : Bool) (R : List Int) : Prop :=
  (b = true → dOk L = false) ∧ (b = false → d = dD L ∧ s = dS L ∧ x = dX L ∧ R = dR L ∧ HdG L)
theorem RHd.of {L R1 R2 R3 : List Int} {n1 n2 x : Int} {b1 b2 b3 : Bool} (h1 : NumP L 8 false n1 b1 R1) (h2 : NumP R1 64 b1 n2 b2 R2) (h3 : WorP R2 b2 x b3 R3) : RHd L n1 n2 x b3 R3 := by
  rcases h1 with ⟨_, g1, rfl, rfl, rfl⟩ | ⟨g1, rfl, rfl, _⟩
  · rcases h2 with ⟨_, g2, rfl, rfl, rfl⟩ | ⟨g2, rfl, rfl, _⟩
    · rcases h3 with ⟨_, g3, rfl, rfl, rfl⟩ | ⟨g3, rfl, rfl, _⟩
      · exact ⟨fun h => (by cases h), fun _ => ⟨rfl, rfl, rfl, rfl, g1, g2, g3⟩⟩
      · exact ⟨fun _ => dec_h3 (g3.resolve_left (by simp)), fun h => (by cases h)⟩
    · have hb : dOk L = false := dec_h2 (g2.resolve_left (by simp))
      rcases h3 with ⟨h, _⟩ | ⟨_, _, rfl, _⟩
      · cases h
      · exact ⟨fun _ => hb, fun h => (by cases h)⟩
  · have hb : dOk L = false := dec_h1 (g1.resolve_left (by simp))
    rcases h2 with ⟨h, _⟩ | ⟨_, _, rfl, _⟩
    · cases h
    · rcases h3 with ⟨h, _⟩ | ⟨_, _, rfl, _⟩
      · cases h
      · exact ⟨fun _ => hb, fun h => (by cases h)⟩
/-- What is known behind k cells. -/
def RCl (L : List Int) (d s x : Int) (C : List Int) (b : Bool) (R : List Int) (k : Nat) : Prop :=
  (b = true → dOk L = false) ∧ (b = false → d = dD L ∧ s = dS L ∧ x = dX L ∧ R = rests (dR L) k ∧ HdG L ∧ C = valsN (dR L) k ∧ ClG (dR L) k)
theorem RCl.start {L R : List Int} {d s x : Int} {b : Bool} (h : RHd L d s x b R) : RCl L d s x [] b R 0 :=
  ⟨h.1, fun hb => by obtain ⟨a1, a2, a3, a4, a5⟩ := h.2 hb; exact ⟨a1, a2, a3, a4, a5, rfl, fun j hj => by omega⟩⟩
theorem RCl.step {L R R' C : List Int} {d s x n : Int} {b b' : Bool} {k : Nat} (h : RCl L d s x C b R k) (hb : b = false) (hk : (k : Int) < d * s) (hn : NumP R 4294967295 b n b' R') : RCl L d s x (C ++ [n]) b' R' (k + 1) := by
  obtain ⟨a1, a2, a3, a4, a5, a6, a7⟩ := h.2 hb
  rcases hn with ⟨_, g, rfl, rfl, rfl⟩ | ⟨g, rfl, rfl, rfl⟩
  · refine ⟨fun h => (by cases h), fun _ => ⟨a1, a2, a3, by rw [a4]; rfl, a5, by rw [a6, valsN_succ, a4], fun j hj => ?_⟩⟩
    by_cases hjk : j < k
    · exact a7 j hjk
    · obtain rfl : j = k := by omega
      rw [← a4]
      exact g
  · refine ⟨fun _ => ?_, fun h => (by cases h)⟩
    subst hb
    have g := g.resolve_left (by simp)
    rw [a4] at g
    refine dec_cell g ?_
    unfold dN
    rw [← a1, ← a2]
    omega
/-- What is known in the end. -/
theorem RCl.fin {L R R' C : List Int} {d s x n : Int} {b b' : Bool} {k : Nat} (hy : Byt (dR L)) (h : RCl L d s x C b R k) (hk : b = true ∨ ¬ (k : Int) < d * s) (hk2 : b = false → (k : Int) ≤ d * s ∨ k = 0) (h0 : 0 ≤ d * s) (hn : NumP R 1 b n b' R') :
    ((b' = true ∨ R' ≠ [] ∨ cmE d s C ≠ 0) → dOk L = false) ∧ (b' = false → R' = [] → cmE d s C = 0 → dOk L = true ∧ decC L = ⟨d, s, x, C, n == 1⟩) := by
  by_cases hb : b = true
  · have h1 := h.1 hb
    refine ⟨fun _ => h1, fun hb' => ?_⟩
    rcases hn with ⟨h, _⟩ | ⟨_, _, h, _⟩
    · rw [hb] at h; cases h
    · rw [hb'] at h; cases h
  · have hb : b = false := by simpa using hb
    have hk : ¬ (k : Int) < d * s := hk.resolve_left (by rw [hb]; simp)
    obtain ⟨a1, a2, a3, a4, a5, a6, a7⟩ := h.2 hb
    have hkN : k = dN L := by
      unfold dN
      rw [← a1, ← a2]
      rcases hk2 hb with h | h <;> omega
    subst hkN
    rcases hn with ⟨_, g, rfl, rfl, rfl⟩ | ⟨g, rfl, rfl, rfl⟩
    · rw [a4] at g ⊢
      have e : restU (rests (dR L) (dN L)) = rests (dR L) (dN L + 1) := rfl
      rw [e]
      refine ⟨?_, fun _ h2 h3 => ?_⟩
      · rintro (h | h | h)
        · cases h
        · exact dOk_rest h
        · by_cases hs : shpB (dD L) (dS L) = true
          · rw [a1, a2, a6, cmE_vals hs] at h
            by_cases ha : (valsN (dR L) (dN L)).all celB = true
            · rw [if_pos ha] at h; exact absurd rfl h
            · exact dOk_cel (by simpa using ha)
          · exact dOk_shp (by simpa using hs)
      · have hs : shpB (dD L) (dS L) = true := by
          rw [a1, a2] at h3
          exact (shpB_iff _ _).2 (cmE_ok h3).1
        have hok := dec_all hy a5 a7 g h2 hs
        refine ⟨hok, ?_⟩
        rw [(dec_yes hok).1, a1, a2, a3, a6]
        rfl
    · refine ⟨fun _ => ?_, fun h => (by cases h)⟩
      have g := g.resolve_left (by rw [hb]; simp)
      rw [a4] at g
      exact dec_flag g
/-- The state while the cells are read. -/
def RDL (W : World) (h g : Nat) (L : List Int) (d s x : Int) (C : List Int) (v : Value) (b : Bool) (R : List Int) (w : World) : Prop :=
  CSt h 0 0 0 (.slice none 0 0) false w ∧ RS W (h + 1) L R b w ∧ CSt g d s x v false w ∧ OwnI (g + 1) C v w ∧ Below h W w
theorem RDL.step {W : World} {h g : Nat} {L : List Int} {d s x : Int} {C : List Int} {v : Value} {b b' : Bool} {R R' : List Int} {n : Int} {w w6 w7 : World} (hl : RDL W h g L d s x C v b R w) (hd : RS W (h + 1) L R' b' w6) (ho : Oth (h + 1) w w6) (hg : h + 1 < g) {u : Value} (hu : u.oneCell' = true) {o : Obj}
    (h7 : OwnI (g + 1) (C ++ [n]) u w7) (hb : Below (g + 1) (w6.alloc o) w7) : RDL W h g L d s x (C ++ [n]) u b' R' (w7.setCell ⟨g, 3, none⟩ u) := by
  obtain ⟨h1, h2, h3, h4, h5⟩ := hl
  have hs6 : g < w6.heap.size := Nat.lt_of_lt_of_le (block_lt_of_cell h3.1.1) ho.1.size
  have k1 := ((h1.oth ho (by omega)).below (b1 o) (by omega)).below hb (by omega)
  have k2 := (hd.keep (Below.heap_alloc w6 o _ (by omega))).keep (hb.block _ (by omega))
  have k3 := ((h3.oth ho (by omega)).below (b1 o) hs6).below hb (Nat.lt_succ_self _)
  refine ⟨k1.far (by omega) _ _, k2.keep (Below.heap_setCell w7 ⟨g, 3, none⟩ _ _ (show h + 1 ≠ g by omega)), k3.setV u hu, h7.keep (Nat.lt_succ_self _) _ _, ?_⟩
  exact (((h5.trans (ho.1.mono (by omega))).alloc (by omega) o).trans (hb.mono (by omega))).setCell (p := ⟨g, 3, none⟩) (show h ≤ g by omega) _
theorem RDL.drew {W : World} {h g : Nat} {L : List Int} {d s x : Int} {C : List Int} {v : Value} {b : Bool} {R : List Int} {w : World} (hl : RDL W h g L d s x C v b R w) : RDL W h g L d s x C v b R w.drew := ⟨hl.1, hl.2.1, hl.2.2.1, hl.2.2.2.1, hl.2.2.2.2.drew⟩
set_option maxRecDepth 100000 in
set_option maxHeartbeats 4000000 in
theorem rcdec_any (L : List Int) (v : Value) (w : World) (h : Rd L v w) :
    Calls Try.prog 31 #[v] w fun e w' => ∃ u, e = .returned (.tuple #[u, .int .i64 (decE L)]) ∧ OwnC w.heap.size (decC L) u w' ∧ Below w.heap.size w w' := by
  obtain ⟨a, len, cap, rfl⟩ : ∃ a len cap, v = .slice a len cap := by
    obtain ⟨_, a, cap, hv, _⟩ := h
    exact ⟨a, _, cap, hv⟩
  have C0 := Lib.hid ((CSt.new 0 0 0 (.slice none 0 0) false 26 w).below (b1 (.cells #[.slice a len cap, .int .i64 0, .bool false] 86)) (by simp))
  have D0 : Hid (RS w (w.heap.size + 1) L L false ((w.alloc (.cells #[.int .i64 0, .int .i64 0, .int .u64 0, .slice none 0 0, .bool false] 26)).alloc (.cells #[.slice a len cap, .int .i64 0, .bool false] 86))) :=
    Lib.hid ⟨.slice a len cap, 0, h, Nat.zero_le _, rfl, ⟨by go_simp, by go_simp, by go_simp⟩, by go_simp, by go_simp, by go_simp⟩
  have B0 := Lib.hid (b2 (a := w) (.cells #[.int .i64 0, .int .i64 0, .int .u64 0, .slice none 0 0, .bool false] 26) (.cells #[.slice a len cap, .int .i64 0, .bool false] 86))
  have HY : Hid (Byt (dR L)) := Lib.hid (((h.1.drop _).drop _).drop _)
  clear h
  obtain ⟨RES, hRES⟩ : ∃ r, decC L = r := ⟨_, rfl⟩
  obtain ⟨REE, hREE⟩ : ∃ r, decE L = r := ⟨_, rfl⟩
  rw [hRES, hREE]
  have HRES := Lib.hid hRES
  have HREE := Lib.hid hREE
  clear hRES hREE
  go_enter Try.func31, Try.ntmps31
  go_wp2_with fail
  go_at_call 59
  refine (rnum_any 8 (by decide) (by decide) D0.out B0.out).mono ?_
  rintro e w2 ⟨n1, f1, R1, rfl, hp1, hd2, ho2⟩
  have D2 := Lib.hid hd2
  have B2 := Lib.hid (B0.out.trans (ho2.1.mono (Nat.le_succ _)))
  have C2 := Lib.hid (C0.out.oth ho2 (by omega))
  have hbd1 := hp1.bd D0.out.byt (by decide)
  clear hd2 ho2
  go_wp2_with fail
  go_at_call 59
  refine (rnum_any 64 (by decide) (by decide) D2.out B2.out).mono ?_
  rintro e w3 ⟨n2, f2, R2, rfl, hp2, hd3, ho3⟩
  have D3 := Lib.hid hd3
  have B3 := Lib.hid (B2.out.trans (ho3.1.mono (Nat.le_succ _)))
  have C3 := Lib.hid (C2.out.oth ho3 (by omega))
  have hbd2 := hp2.bd D2.out.byt (by decide)
  clear hd3 ho3
  go_wp2_with fail
  go_at_call 60
  refine (rwrd_any D3.out B3.out).mono ?_
  rintro e w4 ⟨x, b, R, rfl, hp3, hd4, ho4⟩
  have D4 := Lib.hid hd4
  have B4 := Lib.hid (B3.out.trans (ho4.1.mono (Nat.le_succ _)))
  have C4 := Lib.hid (C3.out.oth ho4 (by omega))
  have HH := Lib.hid (RHd.of hp1 hp2 hp3)
  clear hd4 ho4 hp1 hp2 hp3 C0 D0 B0 D2 B2 C2 D3 B3 C3
  have hm0 : 0 ≤ n1 * n2 := Int.mul_nonneg hbd1.1 hbd2.1
  have hm1 : n1 * n2 ≤ 8 * 64 := Int.mul_le_mul hbd1.2 hbd2.2 hbd2.1 (by omega)
  have hgs : w.heap.size + 1 < w4.heap.size := D4.out.size
  have HI : Hid (RDL w w.heap.size w4.heap.size L n1 n2 x [] (.slice none 0 0) b R (w4.alloc (.cells #[.int .i64 n1, .int .i64 n2, .int .u64 x, .slice none 0 0, .bool false] 26))) := Lib.hid ⟨C4.out.below (b1 _) (block_lt_of_cell C4.out.1.1), D4.out.keep (Below.heap_alloc _ _ _ D4.out.size), CSt.new _ _ _ _ _ _ _, OwnI.empty _ _, bal B4.out _⟩
  have HK := Lib.hid (RCl.start HH.out)
  clear C4 D4 B4 HH
  go_wp2
  go_loopw [6] (fun i wr => ∃ (k : Nat) (C : List Int) (b : Bool) (R : List Int) (a : Option Addr) (n c : Nat), ((k : Int) ≤ n1 * n2 ∨ k = 0) ∧ Hid (C.length = k) ∧ i = .int .i64 (k : Int) ∧ Hid (RDL w w.heap.size w4.heap.size L n1 n2 x C (.slice a n c) b R wr) ∧ Hid (RCl L n1 n2 x C b R k)) (fun i _ => 513 - (intOf i).toNat)
  case atStart => exact ⟨0, [], b, R, none, 0, 0, .inr rfl, Lib.hid rfl, rfl, HI, HK⟩
  case round =>
    clear HI HK b R
    obtain ⟨k, C, b, R, a5, n5, c5, hk, hC, rfl, HI, HK⟩ := hrel
    obtain ⟨hc0, hrs, ⟨⟨q0, q1, q2, q3, q4⟩, f0, f1, f2, f3, f4⟩, ho, hb⟩ := HI.out
    have hkb : (k : Int) ≤ 512 := by omega
    obtain ⟨vr, kr, _, _, _, ⟨⟨r0, r1, r2⟩, _⟩⟩ := hrs
    clear hc0 ho hb
    by_cases hgo : (k : Int) < n1 * n2 ∧ b = false
    · obtain ⟨hlt, rfl⟩ := hgo
      have hnum := rnum_any 4294967295 (by decide) (by decide) HI.out.drew.2.1 HI.out.drew.2.2.2.2
      have HNB := Lib.hid (fun (n : Int) b' R' (h : NumP R 4294967295 false n b' R') => h.bd HI.out.2.1.byt (by decide))
      go_wp2
      clear r0 r1 r2
      go_region_law (first
        | (go_simp; go_at_call 59; refine hnum.mono ?_; rintro e w6 ⟨z, b', R', rfl, hp, hd6, ho6⟩; have HP := Lib.hid hp; have HD6 := Lib.hid hd6; have HO6 := Lib.hid ho6; have hzb := HNB.out z b' R' hp; have hg6 : w4.heap.size < w6.heap.size := Nat.lt_of_lt_of_le (block_lt_of_cell HI.out.2.2.1.1.1) ho6.1.size; have ho6' := ho6; have q63 : w6.cell? ⟨w4.heap.size, 3, none⟩ = some (.slice a5 n5 c5) := (World.cell?_of_block (w := wr.drew) (a := ⟨w4.heap.size, 3, none⟩) (ho6.2 w4.heap.size (by omega))).trans q3; have f63 : w6.frozen? ⟨w4.heap.size, 3, none⟩ = false := (World.frozen?_of_block (w := wr.drew) (a := ⟨w4.heap.size, 3, none⟩) (ho6.2 w4.heap.size (by omega))).trans f3; clear hp hd6 ho6 ho6' hnum)
        | (refine step_appI rfl _ _ _ rfl (w4.heap.size + 1) C [z] _ _ rfl rfl ?_ ?_ ?_ ?_ ?_; (exact OwnI.alloc (OwnI.oth (w := wr.drew) HI.out.2.2.2.1 HO6.out (by omega)) _); (exact (OwnI.one (c := z) (by omega) w6).rd.src); (exact Nat.le_trans hg6 (b1 _).size); (have := hC.out; simp; omega); (intro v7 w7 ho7 hb7; obtain ⟨a7, cp7, hv7⟩ := ho7.rd.shape; rw [show (C ++ [z]).length = C.length + 1 from by simp] at hv7; subst hv7; have HST := Lib.hid (RDL.step HI.out.drew HD6.out HO6.out hgs rfl ho7 hb7); have q73 : w7.cell? ⟨w4.heap.size, 3, none⟩ = some (.slice a5 n5 c5) := (hb7.cell (p := ⟨w4.heap.size, 3, none⟩) (Nat.lt_succ_self _)).trans (((b1 _).cell (p := ⟨w4.heap.size, 3, none⟩) hg6).trans q63); have f73 : w7.frozen? ⟨w4.heap.size, 3, none⟩ = false := (hb7.frozen (p := ⟨w4.heap.size, 3, none⟩) (Nat.lt_succ_self _)).trans (((b1 _).frozen (p := ⟨w4.heap.size, 3, none⟩) hg6).trans f63); clear ho7 hb7)))
      all_goals
        go_wp2
        go_roundw
        case rel => exact ⟨k + 1, C ++ [z], b', R', a7, C.length + 1, cp7, .inl (by omega), Lib.hid (by rw [List.length_append, hC.out]; rfl), by go_num, HST, Lib.hid (RCl.step HK.out rfl hlt HP.out)⟩
        case measure => simp [intOf]; omega
    · have hnum := rnum_any 1 (by decide) (by decide) HI.out.2.1 HI.out.2.2.2.2
      have HEX := Lib.hid (show b = true ∨ ¬ (k : Int) < n1 * n2 from by
        by_cases hbt : b = true
        · exact .inl hbt
        · exact .inr (fun h => hgo ⟨h, by simpa using hbt⟩))
      have hgo2 : ¬ (k : Int) < n1 * n2 ∨ (k : Int) < n1 * n2 ∧ b = true := by
        by_cases hlt : (k : Int) < n1 * n2
        · exact .inr ⟨hlt, HEX.out.resolve_right (fun h => h hlt)⟩
        · exact .inl hlt
      clear hgo
      have HKK := Lib.hid hk
      clear hk
      rcases hgo2 with hlt | ⟨hlt, rfl⟩
      all_goals
        go_wp2_with fail
        go_at_call 59
        refine hnum.mono ?_
        rintro e w6 ⟨z, b', R', rfl, hp, hd6, ho6⟩
        have HF := Lib.hid (RCl.fin HY.out HK.out (by first | exact .inl rfl | exact .inr (by omega)) (fun _ => HKK.out) hm0 hp)
        have C6 := Lib.hid (HI.out.1.oth ho6 (by omega))
        have G6 := Lib.hid (HI.out.2.2.1.oth ho6 (by omega))
        have O6 := Lib.hid (HI.out.2.2.2.1.oth ho6 (by omega))
        have B6 := Lib.hid (HI.out.2.2.2.2.trans (ho6.1.mono (Nat.le_succ _)))
        have D6 := Lib.hid hd6
        have hzb := hp.bd HI.out.2.1.byt (by decide)
        obtain ⟨⟨g60, g61, g62, g63, g64⟩, y60, y61, y62, y63, y64⟩ := G6.out
        clear hp hd6 ho6 hnum r0 r1 r2 q0 q1 q2 q3 q4 f0 f1 f2 f3 f4 HK HEX HKK
        have C8 := Lib.hid (C6.out.far (b := w4.heap.size) (by omega) 4 (.bool (z == 1)))
        have D8 := Lib.hid (D6.out.keep (Below.heap_setCell w6 ⟨w4.heap.size, 4, none⟩ (.bool (z == 1)) _ (show w.heap.size + 1 ≠ w4.heap.size by omega)))
        have G8 := Lib.hid (G6.out.setS (z == 1))
        have O8 := Lib.hid (O6.out.keep (Nat.lt_succ_self _) 4 (.bool (z == 1)))
        have B8 := Lib.hid (B6.out.setCell (p := ⟨w4.heap.size, 4, none⟩) (show w.heap.size ≤ w4.heap.size by omega) (.bool (z == 1)))
        have hdone := rdone_any D8.out B8.out
        go_wp2_with fail
        go_at_call 61
        refine hdone.mono ?_
        rintro e w9 ⟨rfl, m, hm9⟩
        have C9 : Hid (CSt w.heap.size 0 0 0 (.slice none 0 0) false w9) := Lib.hid (by rw [hm9]; exact C8.out)
        have G9 : Hid (CSt w4.heap.size n1 n2 x (.slice a5 n5 c5) (z == 1) w9) := Lib.hid (by rw [hm9]; exact G8.out)
        have O9 : Hid (OwnI (w4.heap.size + 1) C (.slice a5 n5 c5) w9) := Lib.hid (by rw [hm9]; exact O8.out)
        have B9 : Hid (Below w.heap.size w w9) := Lib.hid (by rw [hm9]; exact below_drewN B8.out m)
        clear hdone hm9 C6 G6 O6 B6 D6 C8 D8 G8 O8 B8 g60 g61 g62 g63 g64 y60 y61 y62 y63 y64
        obtain ⟨⟨g0, g1, g2, g3, g4⟩, _⟩ := G9.out
        have hdn : ((!b' && R'.isEmpty) = true ∧ b' = false ∧ R' = []) ∨ ((!b' && R'.isEmpty) = false ∧ (b' = true ∨ R' ≠ [])) := by
          cases b'
          · cases R' with
            | nil => exact .inl ⟨rfl, rfl, rfl⟩
            | cons a l => exact .inr ⟨rfl, .inr (by simp)⟩
          · exact .inr ⟨rfl, .inl rfl⟩
        rcases hdn with ⟨hdn, hb', hR'⟩ | ⟨hdn, hbad⟩
        · have hv := rcval_any n1 n2 x C a5 n5 c5 (z == 1) w9 (by omega) (by omega) (by omega) (by omega) O9.out.rd
          by_cases hE : cmE n1 n2 C = 0
          · obtain ⟨hok, hdc⟩ := HF.out.2 hb' hR' hE
            have HX1 := Lib.hid (HRES.out.symm.trans hdc)
            have HX2 := Lib.hid (HREE.out.symm.trans (dec_yes hok).2)
            rw [hE] at hv
            rw [hdn]
            clear hE hok hdc hdn hb' hR'
            go_wp2_with (first
              | (go_at_call 22; refine hv.mono ?_; rintro e wv ⟨rfl, hbv⟩; have CV := Lib.hid (C9.out.below hbv (block_lt_of_cell C9.out.1.1)); have GV := Lib.hid (G9.out.below hbv (block_lt_of_cell G9.out.1.1)); have OV := Lib.hid (O9.out.below hbv); have BV := Lib.hid (bgo B9.out hbv); obtain ⟨⟨v0, v1, v2, v3, v4⟩, _⟩ := GV.out; clear hbv)
              | (refine wp_storeC rfl _ _ rfl w.heap.size rfl CV.out rfl ?_; intro wz hCz hOz; have BZ := Lib.hid (BV.out.trans hOz.1); have OZ := Lib.hid (OV.out.oth hOz (by omega)); obtain ⟨⟨z0, z1, z2, z3, z4⟩, y0, y1, y2, y3, y4⟩ := hCz; clear hOz))
            refine bodyPost_ret (v := .tuple #[.agg #[.int .i64 n1, .int .i64 n2, .int .u64 x, .slice a5 n5 c5, .bool (z == 1)], .int .i64 0]) (by simp [results, Try.results31, go_sem, *]) rfl ⟨_, by rw [HX2.out], by rw [HX1.out]; exact ⟨_, _, _, rfl, OZ.out.mono (by omega)⟩, BZ.out⟩
          · obtain ⟨n1', n2'⟩ := dec_no (HF.out.1 (.inr (.inr hE)))
            have HX1 := Lib.hid (HRES.out.symm.trans n1')
            have HX2 := Lib.hid (HREE.out.symm.trans n2')
            have hE2 : (cmE n1 n2 C != 0) = true := by simpa using hE
            rw [hdn]
            clear n1' n2' hdn hb' hR' hE
            generalize cmE n1 n2 C = EE at *
            go_wp2_with (first
              | (go_at_call 22; refine hv.mono ?_; rintro e wv ⟨rfl, hbv⟩; have CV := Lib.hid (C9.out.below hbv (block_lt_of_cell C9.out.1.1)); have BV := Lib.hid (bgo B9.out hbv); clear hbv)
              | (refine wp_storeC rfl _ _ rfl w.heap.size rfl CV.out rfl ?_; intro wz hCz hOz; have BZ := Lib.hid (BV.out.trans hOz.1); obtain ⟨⟨z0, z1, z2, z3, z4⟩, y0, y1, y2, y3, y4⟩ := hCz; clear hOz))
            refine bodyPost_ret (v := .tuple #[.agg #[.int .i64 0, .int .i64 0, .int .u64 0, .slice none 0 0, .bool false], .int .i64 2]) (by simp [results, Try.results31, go_sem, *]) rfl ⟨_, by rw [HX2.out], by rw [HX1.out]; exact noneC_own _ _, BZ.out⟩
        · obtain ⟨n1', n2'⟩ := dec_no (HF.out.1 (by rcases hbad with h | h; exact .inl h; exact .inr (.inl h)))
          have HX1 := Lib.hid (HRES.out.symm.trans n1')
          have HX2 := Lib.hid (HREE.out.symm.trans n2')
          rw [hdn]
          clear n1' n2' hdn hbad
          go_wp2_with (refine wp_storeC rfl _ _ rfl w.heap.size rfl C9.out rfl ?_; intro wz hCz hOz; have BZ := Lib.hid (B9.out.trans hOz.1); obtain ⟨⟨z0, z1, z2, z3, z4⟩, y0, y1, y2, y3, y4⟩ := hCz; clear hOz)
          refine bodyPost_ret (v := .tuple #[.agg #[.int .i64 0, .int .i64 0, .int .u64 0, .slice none 0 0, .bool false], .int .i64 2]) (by simp [results, Try.results31, go_sem, *]) rfl ⟨_, by rw [HX2.out], by rw [HX1.out]; exact noneC_own _ _, BZ.out⟩
end Go.Proofs.Ytlbbmnjhohfbkaa
