/- The contract of the reference's DecodeLogLog. -/
import Derived.Test.YtgnopnifdiipkaaDoorRLDecN
import Derived.Test.YtgnopnifdiipkaaDoorMeet
import Derived.Deep.RegionLaw
namespace Go.Proofs.YtgnopnifdiipkaaDoor
open Go.RowKit
set_option linter.unusedVariables false
set_option linter.unusedSimpArgs false
theorem LSt.othD {g h : Nat} {P x : Int} {v : Value} {w w' : World} (hc : LSt h P x v w) (ho : Oth g w w') (hg : h ≠ g) : LSt h P x v w' := hc.keep (ho.2 h hg)
/-- The state while the registers are read. -/
def LDL (W : World) (h g : Nat) (L : List Int) (P x : Int) (C : List Int) (v : Value) (b : Bool) (R : List Int) (w : World) : Prop :=
  LSt h 0 0 (.slice none 0 0) w ∧ RS W (h + 1) L R b w ∧ LSt g P x v w ∧ OwnI (g + 1) C v w ∧ Below h W w
theorem LDL.step {W : World} {h g : Nat} {L : List Int} {P x : Int} {C : List Int} {v : Value} {b b' : Bool} {R R' : List Int} {n : Int} {w w6 w7 : World} (hl : LDL W h g L P x C v b R w) (hd : RS W (h + 1) L R' b' w6) (ho : Oth (h + 1) w w6) (hg : h + 1 < g) {u : Value} (hu : u.oneCell' = true) {o : Obj}
    (h7 : OwnI (g + 1) (C ++ [n]) u w7) (hb : Below (g + 1) (w6.alloc o) w7) : LDL W h g L P x (C ++ [n]) u b' R' (w7.setCell ⟨g, 2, none⟩ u) := by
  obtain ⟨h1, h2, h3, h4, h5⟩ := hl
  have hs6 : g < w6.heap.size := Nat.lt_of_lt_of_le (block_lt_of_cell h3.1.1) ho.1.size
  have k1 := ((h1.othD ho (by omega)).below (b1 o) (by omega)).below hb (by omega)
  have k2 := (hd.keep (Below.heap_alloc w6 o _ (by omega))).keep (hb.block _ (by omega))
  have k3 := ((h3.othD ho (by omega)).below (b1 o) hs6).below hb (Nat.lt_succ_self _)
  refine ⟨k1.far (by omega) _ _, k2.keep (Below.heap_setCell w7 ⟨g, 2, none⟩ _ _ (show h + 1 ≠ g by omega)), k3.setV u hu, h7.keep (Nat.lt_succ_self _) _ _, ?_⟩
  exact (((h5.trans (ho.1.mono (by omega))).alloc (by omega) o).trans (hb.mono (by omega))).setCell (p := ⟨g, 2, none⟩) (show h ≤ g by omega) _
theorem LDL.drew {W : World} {h g : Nat} {L : List Int} {P x : Int} {C : List Int} {v : Value} {b : Bool} {R : List Int} {w : World} (hl : LDL W h g L P x C v b R w) : LDL W h g L P x C v b R w.drew := ⟨hl.1, hl.2.1, hl.2.2.1, hl.2.2.2.1, hl.2.2.2.2.drew⟩
theorem LDL.drewN {W : World} {h g : Nat} {L : List Int} {P x : Int} {C : List Int} {v : Value} {b : Bool} {R : List Int} {w : World} (hl : LDL W h g L P x C v b R w) (m : Nat) : LDL W h g L P x C v b R (w.drewN m) := ⟨hl.1, hl.2.1, hl.2.2.1, hl.2.2.2.1, below_drewN hl.2.2.2.2 m⟩
theorem wrapM {P : Int} (h : 0 ≤ P ∧ P ≤ 8) : wrap64 (2 ^ P.toNat) = ((llN P : Nat) : Int) ∧ llN P ≤ 256 := by
  have h1 : llN P ≤ 2 ^ 8 := Nat.pow_le_pow_right (by decide) (by omega)
  have e : (2 : Int) ^ P.toNat = ((llN P : Nat) : Int) := by unfold llN; simp
  rw [e]
  generalize llN P = n at *
  unfold wrap64
  omega
set_option maxRecDepth 100000 in
set_option maxHeartbeats 4000000 in
theorem rldec_any (L : List Int) (v : Value) (w : World) (h : Rd L v w) :
    Calls Tryd.prog 30 #[v] w fun e w' => ∃ u, e = .returned (.tuple #[u, .int .i64 (decLE L)]) ∧ OwnL w.heap.size (decL L) u w' ∧ Below w.heap.size w w' := by
  obtain ⟨a, len, cap, rfl⟩ : ∃ a len cap, v = .slice a len cap := by
    obtain ⟨_, a, cap, hv, _⟩ := h
    exact ⟨a, _, cap, hv⟩
  have C0 := Lib.hid ((LSt.new 0 0 (.slice none 0 0) 26 w).below (b1 (.cells #[.slice a len cap, .int .i64 0, .bool false] 82)) (by simp))
  have D0 : Hid (RS w (w.heap.size + 1) L L false ((w.alloc (.cells #[.int .i64 0, .int .u64 0, .slice none 0 0] 26)).alloc (.cells #[.slice a len cap, .int .i64 0, .bool false] 82))) :=
    Lib.hid ⟨.slice a len cap, 0, h, Nat.zero_le _, rfl, ⟨by go_simp, by go_simp, by go_simp⟩, by go_simp, by go_simp, by go_simp⟩
  have B0 := Lib.hid (b2 (a := w) (.cells #[.int .i64 0, .int .u64 0, .slice none 0 0] 26) (.cells #[.slice a len cap, .int .i64 0, .bool false] 82))
  have HY : Hid (Byt (dlR L)) := Lib.hid ((h.1.drop _).drop _)
  clear h
  obtain ⟨RES, hRES⟩ : ∃ r, decL L = r := ⟨_, rfl⟩
  obtain ⟨REE, hREE⟩ : ∃ r, decLE L = r := ⟨_, rfl⟩
  rw [hRES, hREE]
  have HNO : Hid (dlOk L = false → RES = LL.none ∧ REE = 2) := Lib.hid (fun h => by rw [← hRES, ← hREE]; exact decL_no h)
  have HYES : Hid (∀ c, dlOk L = true ∧ decL L = c → RES = c ∧ REE = 0) := Lib.hid (fun c h => ⟨by rw [← hRES]; exact h.2, by rw [← hREE]; exact (decL_yes h.1).2⟩)
  clear hRES hREE
  go_enter Tryd.func30, Tryd.ntmps30
  go_wp2_with fail
  go_at_call 56
  refine (rnum_any 8 (by decide) (by decide) D0.out B0.out).mono ?_
  rintro e w2 ⟨n1, f1, R1, rfl, hp1, hd2, ho2⟩
  have D2 := Lib.hid hd2
  have B2 := Lib.hid (B0.out.trans (ho2.1.mono (Nat.le_succ _)))
  have C2 := Lib.hid (C0.out.othD ho2 (by omega))
  have hbd1 := hp1.bd D0.out.byt (by decide)
  clear hd2 ho2
  go_wp2_with fail
  go_at_call 57
  refine (rwrd_any D2.out B2.out).mono ?_
  rintro e w4 ⟨x, b, R, rfl, hp3, hd4, ho4⟩
  have D4 := Lib.hid hd4
  have B4 := Lib.hid (B2.out.trans (ho4.1.mono (Nat.le_succ _)))
  have C4 := Lib.hid (C2.out.othD ho4 (by omega))
  have HH := Lib.hid (LHd.of hp1 hp3)
  clear hd4 ho4 hp1 hp3 C0 D0 B0 D2 B2 C2
  obtain ⟨hw, hN⟩ := wrapM hbd1
  have hgs : w.heap.size + 1 < w4.heap.size := D4.out.size
  have HI : Hid (LDL w w.heap.size w4.heap.size L n1 x [] (.slice none 0 0) b R (w4.alloc (.cells #[.int .i64 n1, .int .u64 x, .slice none 0 0] 26))) := Lib.hid ⟨C4.out.below (b1 _) (block_lt_of_cell C4.out.1.1), D4.out.keep (Below.heap_alloc _ _ _ D4.out.size), LSt.new _ _ _ _ _, OwnI.empty _ _, bal B4.out _⟩
  have HK := Lib.hid (LCl.start HH.out)
  have HFIN := Lib.hid (fun (k : Nat) (C : List Int) (b : Bool) (R : List Int) (h : LCl L n1 x C b R k) => LCl.fin h)
  have HSTP := Lib.hid (fun (k : Nat) (C : List Int) (R R' : List Int) (n : Int) (b' : Bool) (h : LCl L n1 x C false R k) (hk : k < llN n1) (hn : NumP R 65 false n b' R') => LCl.step HY.out h rfl hk hn)
  clear C4 D4 B4 HH
  obtain ⟨n0, n8⟩ := hbd1
  generalize llN n1 = N at *
  go_wp2
  go_loopw [6] (fun i wr => ∃ (k : Nat) (C : List Int) (b : Bool) (R : List Int) (a : Option Addr) (n c : Nat), k ≤ N ∧ Hid (C.length = k) ∧ i = .int .i64 (k : Int) ∧ Hid (LDL w w.heap.size w4.heap.size L n1 x C (.slice a n c) b R wr) ∧ Hid (LCl L n1 x C b R k)) (fun i _ => 257 - (intOf i).toNat)
  case atStart => exact ⟨0, [], b, R, none, 0, 0, Nat.zero_le _, Lib.hid rfl, rfl, HI, HK⟩
  case round =>
    clear HI HK b R
    obtain ⟨k, C, b, R, a5, n5, c5, hk, hC, rfl, HI, HK⟩ := hrel
    obtain ⟨hc0, hrs, ⟨⟨q0, q1, q2⟩, f0, f1, f2⟩, ho, hb⟩ := HI.out
    have hkb : (k : Int) ≤ 256 := by omega
    obtain ⟨vr, kr, _, _, _, ⟨⟨r0, r1, r2⟩, _⟩⟩ := hrs
    clear hc0 ho hb
    by_cases hgo : k < N ∧ b = false
    · obtain ⟨hlt, rfl⟩ := hgo
      have hltI : (k : Int) < (N : Int) := by omega
      have hnum := rnum_any 65 (by decide) (by decide) HI.out.drew.2.1 HI.out.drew.2.2.2.2
      have HNB := Lib.hid (fun (n : Int) b' R' (h : NumP R 65 false n b' R') => h.bd HI.out.2.1.byt (by decide))
      go_wp2
      clear r0 r1 r2
      go_region_law (first
        | (go_simp; go_at_call 56; refine hnum.mono ?_; rintro e w6 ⟨z, b', R', rfl, hp, hd6, ho6⟩; have HP := Lib.hid hp; have HD6 := Lib.hid hd6; have HO6 := Lib.hid ho6; have hzb := HNB.out z b' R' hp; have hg6 : w4.heap.size < w6.heap.size := Nat.lt_of_lt_of_le (block_lt_of_cell HI.out.2.2.1.1.1) ho6.1.size; have q63 : w6.cell? ⟨w4.heap.size, 2, none⟩ = some (.slice a5 n5 c5) := (World.cell?_of_block (w := wr.drew) (a := ⟨w4.heap.size, 2, none⟩) (ho6.2 w4.heap.size (by omega))).trans q2; have f63 : w6.frozen? ⟨w4.heap.size, 2, none⟩ = false := (World.frozen?_of_block (w := wr.drew) (a := ⟨w4.heap.size, 2, none⟩) (ho6.2 w4.heap.size (by omega))).trans f2; clear hp hd6 ho6 hnum)
        | (refine step_appI rfl _ _ _ rfl (w4.heap.size + 1) C [z] _ _ rfl rfl ?_ ?_ ?_ ?_ ?_; (exact OwnI.alloc (OwnI.oth (w := wr.drew) HI.out.2.2.2.1 HO6.out (by omega)) _); (exact (OwnI.one (c := z) (by omega) w6).rd.src); (exact Nat.le_trans hg6 (b1 _).size); (have := hC.out; simp; omega); (intro v7 w7 ho7 hb7; obtain ⟨a7, cp7, hv7⟩ := ho7.rd.shape; rw [show (C ++ [z]).length = C.length + 1 from by simp] at hv7; subst hv7; have HST := Lib.hid (LDL.step HI.out.drew HD6.out HO6.out hgs rfl ho7 hb7); have q73 : w7.cell? ⟨w4.heap.size, 2, none⟩ = some (.slice a5 n5 c5) := (hb7.cell (p := ⟨w4.heap.size, 2, none⟩) (Nat.lt_succ_self _)).trans (((b1 _).cell (p := ⟨w4.heap.size, 2, none⟩) hg6).trans q63); have f73 : w7.frozen? ⟨w4.heap.size, 2, none⟩ = false := (hb7.frozen (p := ⟨w4.heap.size, 2, none⟩) (Nat.lt_succ_self _)).trans (((b1 _).frozen (p := ⟨w4.heap.size, 2, none⟩) hg6).trans f63); clear ho7 hb7)))
      all_goals
        go_wp2
        go_roundw
        case rel => exact ⟨k + 1, C ++ [z], b', R', a7, C.length + 1, cp7, hlt, Lib.hid (by rw [List.length_append, hC.out]; rfl), by go_num, HST, Lib.hid (HSTP.out k C R R' z b' HK.out hlt HP.out)⟩
        case measure => simp [intOf]; omega
    · have HEX : Hid (b = true ∨ ¬ k < N) := Lib.hid (by
        by_cases hbt : b = true
        · exact .inl hbt
        · exact .inr (fun h => hgo ⟨h, by simpa using hbt⟩))
      have hgo2 : ¬ (k : Int) < (N : Int) ∨ (k : Int) < (N : Int) ∧ b = true := by
        by_cases hlt : k < N
        · exact .inr ⟨by omega, HEX.out.resolve_right (fun h => h hlt)⟩
        · exact .inl (by omega)
      have HF := Lib.hid (HFIN.out k C b R HK.out HEX.out (fun _ => hk))
      have hdone := rdone_any HI.out.2.1 HI.out.2.2.2.2
      have hown := HI.out.2.2.2.1
      have hvl := fun m => rlval_any n1 x C a5 n5 c5 (wr.drewN m) (hown.drewN m).rd
      have HVL := Lib.hid hvl
      obtain ⟨d, hd⟩ : ∃ d : Bool, (!b && R.isEmpty) = d := ⟨_, rfl⟩
      rw [hd] at hdone
      have HD := Lib.hid hd
      have HND : Hid (d = false → dlOk L = false) := Lib.hid (fun h0 => HF.out.1 (by
        have h := HD.out
        rw [h0] at h
        cases b
        · right; left
          intro hR
          rw [hR] at h
          simp at h
        · exact .inl rfl))
      clear hd hgo hown hvl HEX HFIN HSTP HK
      rcases hgo2 with hlt | ⟨hlt, rfl⟩
      all_goals
        cases d
        · have hno := HND.out rfl
          obtain ⟨rfl, rfl⟩ := HNO.out hno
          obtain ⟨⟨s0, s1, s2⟩, g0, g1, g2⟩ := HI.out.1
          clear hno HF HD HVL HNO HYES HND
          go_wp2_with (go_at_call 58; (with_reducible refine hdone.mono ?_); rintro e w6 ⟨rfl, m, rfl⟩; have HX := Lib.hid (HI.out.drewN m); clear s0 s1 s2 g0 g1 g2; obtain ⟨⟨s0, s1, s2⟩, g0, g1, g2⟩ := HX.out.1)
          refine bodyPost_ret (v := .tuple #[.agg #[.int .i64 0, .int .u64 0, .slice none 0 0], .int .i64 2]) (by simp [results, Tryd.results30, go_sem, *]) rfl ⟨_, rfl, noneL_own _ _, ?_⟩
          exact bset3 HX.out.2.2.2.2 _ (Nat.le_refl _) _ _ _
        · first
          | (exfalso; have h := HD.out; simp at h; done)
          | (obtain ⟨rfl, hR⟩ : b = false ∧ R = [] := by
               have h := HD.out
               cases b
               · exact ⟨rfl, by simpa using h⟩
               · simp at h
             obtain ⟨⟨s0, s1, s2⟩, g0, g1, g2⟩ := HI.out.1
             by_cases hE : llE n1 C = 0
             · have hyes := HF.out.2 rfl hR hE
               obtain ⟨rfl, rfl⟩ := HYES.out _ hyes
               rw [hE] at HVL
               clear hyes HF HD HNO HYES hE HND
               go_wp2_with (first
                 | (go_at_call 58; (with_reducible refine hdone.mono ?_); rintro e w6 ⟨rfl, m, rfl⟩; have HX := Lib.hid (HI.out.drewN m); clear s0 s1 s2 g0 g1 g2 q0 q1 q2; obtain ⟨⟨s0, s1, s2⟩, g0, g1, g2⟩ := HX.out.1; obtain ⟨⟨q0, q1, q2⟩, -⟩ := HX.out.2.2.1)
                 | (go_at_call 22; (with_reducible refine (HVL.out _).mono ?_); rintro e w7 ⟨rfl, hb7⟩; have B7 := Lib.hid (HX.out.2.2.2.2.trans (hb7.mono (Nat.le_of_lt HX.out.1.size))); have S7 := Lib.hid (HX.out.1.below hb7 HX.out.1.size); have T7 := Lib.hid (HX.out.2.2.1.below hb7 HX.out.2.2.1.size); have O7 := Lib.hid (HX.out.2.2.2.1.below hb7); clear s0 s1 s2 g0 g1 g2 q0 q1 q2; obtain ⟨⟨s0, s1, s2⟩, g0, g1, g2⟩ := S7.out; obtain ⟨⟨q0, q1, q2⟩, -⟩ := T7.out))
               refine bodyPost_ret (v := .tuple #[.agg #[.int .i64 n1, .int .u64 x, .slice a5 n5 c5], .int .i64 0]) (by simp [results, Tryd.results30, go_sem, *]) rfl ⟨_, rfl, ⟨_, _, _, rfl, ?_⟩, ?_⟩
               · exact (OwnI.keep3 (k := w.heap.size) O7.out (by omega) _ _ _).mono (by omega)
               · exact bset3 B7.out _ (Nat.le_refl _) _ _ _
             · have hno := HF.out.1 (.inr (.inr hE))
               obtain ⟨rfl, rfl⟩ := HNO.out hno
               have hE2 : (llE n1 C != 0) = true := by simpa using hE
               generalize llE n1 C = E at *
               clear hno HF HD HNO HYES hE HND
               go_wp2_with (first
                 | (go_at_call 58; (with_reducible refine hdone.mono ?_); rintro e w6 ⟨rfl, m, rfl⟩; have HX := Lib.hid (HI.out.drewN m); clear s0 s1 s2 g0 g1 g2 q0 q1 q2; obtain ⟨⟨s0, s1, s2⟩, g0, g1, g2⟩ := HX.out.1; obtain ⟨⟨q0, q1, q2⟩, -⟩ := HX.out.2.2.1)
                 | (go_at_call 22; (with_reducible refine (HVL.out _).mono ?_); rintro e w7 ⟨rfl, hb7⟩; have B7 := Lib.hid (HX.out.2.2.2.2.trans (hb7.mono (Nat.le_of_lt HX.out.1.size))); have S7 := Lib.hid (HX.out.1.below hb7 HX.out.1.size); clear s0 s1 s2 g0 g1 g2 q0 q1 q2; obtain ⟨⟨s0, s1, s2⟩, g0, g1, g2⟩ := S7.out))
               refine bodyPost_ret (v := .tuple #[.agg #[.int .i64 0, .int .u64 0, .slice none 0 0], .int .i64 2]) (by simp [results, Tryd.results30, go_sem, *]) rfl ⟨_, rfl, noneL_own _ _, ?_⟩
               exact bset3 B7.out _ (Nat.le_refl _) _ _ _)
end Go.Proofs.YtgnopnifdiipkaaDoor
