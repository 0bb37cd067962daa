/- The contract of tally.Decode. -/
import Derived.Test.YtjpinnoolnhphaaMerT
import Derived.Test.YtjpinnoolnhphaaWire
import Derived.Test.YtjpinnoolnhphaaTail
namespace Go.Proofs.Ytjpinnoolnhphaa
open Go.RowKit
set_option linter.unusedVariables false
set_option linter.unusedSimpArgs false
/-- What follows a number. -/
def restU (L : List Int) : List Int := L.drop (decU L).2.1.toNat
/-- What is read as a tally: the counts, the flag, the error. -/
def decTal (L : List Int) : Int × Int × Bool × Int :=
  if (decU L).2.2 ≠ 0 ∨ (decU (restU L)).2.2 ≠ 0 ∨ (decU (restU (restU L))).2.2 ≠ 0 ∨ restU (restU (restU L)) ≠ [] ∨ 1 < (decU (restU (restU L))).1 ∨ valT (decU L).1 (decU (restU L)).1 ≠ 0 then (0, 0, false, 2)
  else ((decU L).1, (decU (restU L)).1, (decU (restU (restU L))).1 == 1, 0)
/-- Three ints in memory. -/
def Num3 (b : Nat) (x y z : Int) (w : World) : Prop :=
  (w.cell? ⟨b, 0, none⟩ = some (.int .i64 x) ∧ w.cell? ⟨b, 1, none⟩ = some (.int .i64 y) ∧ w.cell? ⟨b, 2, none⟩ = some (.int .i64 z)) ∧
    w.frozen? ⟨b, 0, none⟩ = false ∧ w.frozen? ⟨b, 1, none⟩ = false ∧ w.frozen? ⟨b, 2, none⟩ = false
/-- A tally in memory. -/
def Tal3 (b : Nat) (x y : Int) (z : Bool) (w : World) : Prop :=
  (w.cell? ⟨b, 0, none⟩ = some (.int .i64 x) ∧ w.cell? ⟨b, 1, none⟩ = some (.int .i64 y) ∧ w.cell? ⟨b, 2, none⟩ = some (.bool z)) ∧
    w.frozen? ⟨b, 0, none⟩ = false ∧ w.frozen? ⟨b, 1, none⟩ = false ∧ w.frozen? ⟨b, 2, none⟩ = false
/-- How far the numbers are read. -/
def DecR (L : List Int) (w : World) (b : Nat) (v i : Value) (wr : World) : Prop :=
  (i = .int .i64 0 ∧ Rd L v w ∧ Num3 b 0 0 0 wr) ∨
  (i = .int .i64 1 ∧ (decU L).2.2 = 0 ∧ Rd (restU L) v w ∧ Num3 b (decU L).1 0 0 wr) ∨
  (i = .int .i64 2 ∧ (decU L).2.2 = 0 ∧ (decU (restU L)).2.2 = 0 ∧ Rd (restU (restU L)) v w ∧ Num3 b (decU L).1 (decU (restU L)).1 0 wr) ∨
  (i = .int .i64 3 ∧ (decU L).2.2 = 0 ∧ (decU (restU L)).2.2 = 0 ∧ (decU (restU (restU L))).2.2 = 0 ∧ Rd (restU (restU (restU L))) v w ∧ Num3 b (decU L).1 (decU (restU L)).1 (decU (restU (restU L))).1 wr)
set_option maxRecDepth 100000 in
set_option maxHeartbeats 4000000 in
theorem tdec_any (L : List Int) (v : Value) (w : World) (h : Rd L v w) :
    Calls Try.prog 19 #[v] w fun e w' =>
      e = .returned (.tuple #[.agg #[.int .i64 (decTal L).1, .int .i64 (decTal L).2.1, .bool (decTal L).2.2.1], .int .i64 (decTal L).2.2.2]) ∧ Below w.heap.size w w' := by
  have HR0 := Lib.hid h
  clear h
  unfold decTal
  obtain ⟨RES, hRES⟩ : ∃ R : Int × Int × Bool × Int, R = if (decU L).2.2 ≠ 0 ∨ (decU (restU L)).2.2 ≠ 0 ∨ (decU (restU (restU L))).2.2 ≠ 0 ∨ restU (restU (restU L)) ≠ [] ∨ 1 < (decU (restU (restU L))).1 ∨ valT (decU L).1 (decU (restU L)).1 ≠ 0 then (0, 0, false, 2)
  else ((decU L).1, (decU (restU L)).1, (decU (restU (restU L))).1 == 1, 0) := ⟨_, rfl⟩
  rw [← hRES]
  have HRES := Lib.hid hRES
  clear hRES
  go_enter Try.func19, Try.ntmps19
  go_wp2
  go_loopw [0, 11] (fun v i wr => DecR L w (w.heap.size + 1) v i wr ∧ w.heap.size + 1 < wr.heap.size ∧ Hid (Below w.heap.size w wr) ∧ Hid (Tal3 w.heap.size 0 0 false wr)) (fun _ i _ => 3 - (intOf i).toNat)
  case atStart =>
    refine ⟨.inl ⟨rfl, HR0.out, ⟨by go_simp, by go_simp, by go_simp⟩, by go_simp, by go_simp, by go_simp⟩, by simp, b2 _ _, ?_⟩
    exact ⟨⟨by go_simp, by go_simp, by go_simp⟩, by go_simp, by go_simp, by go_simp⟩
  case round =>
    obtain ⟨hD, hg, HB, HT⟩ := hrel
    have hg2 : w.heap.size < wr.heap.size := by omega
    rcases hD with ⟨rfl, hR, hN⟩ | ⟨rfl, e0, hR, hN⟩ | ⟨rfl, e0, e1, hR, hN⟩ | ⟨rfl, e0, e1, e2, hR, hN⟩
    · have hd := fun w' (hb : Below w.heap.size w w') => decUint_any L u0 w' (hR.below hb)
      have ht := fun w => tlV_run hR (decU L).2.1.toNat (by have := (decU_bd hR.1); omega) w
      have hT := Lib.hid (hR.tl (decU L).2.1.toNat (by have := (decU_bd hR.1); omega))
      obtain ⟨b0, b1, b2, b3, b4, b5, b6, b7⟩ := decU_bd hR.1
      have hd := hd wr HB.out
      have hju : (((decU L).2.1.toNat : Nat) : Int) = (decU L).2.1 := by omega
      rw [hju] at ht
      obtain ⟨⟨n0, n1, n2⟩, n3, n4, n5⟩ := hN
      obtain ⟨⟨t0, t1, t2⟩, t3, t4, t5⟩ := HT.out
      have HGG := Lib.hid hg
      by_cases he : (decU L).2.2 = 0
      · have HE := Lib.hid he
        rw [he] at hd
        have HTL := Lib.hid (show Rd (restU L) (tlV u0 (decU L).2.1.toNat) w from hT.out)
        obtain ⟨m, hm⟩ : ∃ m, (decU L).1 = m := ⟨_, rfl⟩
        have HM := Lib.hid hm
        rw [hm] at hd b0 b1
        generalize (decU L).2.1 = j at *
        generalize tlV u0 j.toNat = u at *
        clear hT hm he hju hg hR b2 b3 b4 b5 b6 b7
        go_wp2_with (go_at_call 31; refine hd.mono ?_; rintro e w' ⟨rfl, rfl⟩)
        go_roundw
        case rel =>
          refine ⟨?_, by have := HGG.out; simp; omega, Lib.hid (bset HB.out _ _ _ (by omega)), ?_⟩
          · exact .inr (.inl ⟨rfl, HE.out, HTL.out, by rw [HM.out]; exact ⟨⟨by go_simp, by go_simp, by go_simp⟩, by go_simp, by go_simp, by go_simp⟩⟩)
          · exact ⟨⟨by go_simp, by go_simp, by go_simp⟩, by go_simp, by go_simp, by go_simp⟩
        case measure => simp [intOf]
      · have he' : ((decU L).2.2 != 0) = true := by simp [he]
        have HZ : Hid (RES = (0, 0, false, 2)) := Lib.hid (by rw [HRES.out, if_pos (.inl he)])
        generalize (decU L).2.2 = e at *
        generalize (decU L).2.1 = j at *
        generalize (decU L).1 = m at *
        clear hT he hju hg hR b0 b1 b2 b3 b4 b5 b6 b7 ht
        go_wp2_with (go_at_call 31; refine hd.mono ?_; rintro e w' ⟨rfl, rfl⟩)
        refine bodyPost_ret (v := .tuple #[.agg #[.int .i64 0, .int .i64 0, .bool false], .int .i64 2]) (by simp [results, Try.results19, go_sem, *]) rfl ⟨by rw [HZ.out], ?_⟩
        exact bset (bset (bset HB.out _ _ _ (by omega)) _ _ _ (by omega)) _ _ _ (by omega)
    · obtain ⟨a1, hm0⟩ : ∃ m, (decU L).1 = m := ⟨_, rfl⟩
      have HM0 := Lib.hid hm0
      have HE0 := Lib.hid e0
      rw [hm0] at hN
      clear hm0 e0
      have hd := fun w' (hb : Below w.heap.size w w') => decUint_any (restU L) u0 w' (hR.below hb)
      have ht := fun w => tlV_run hR (decU (restU L)).2.1.toNat (by have := (decU_bd hR.1); omega) w
      have hT := Lib.hid (hR.tl (decU (restU L)).2.1.toNat (by have := (decU_bd hR.1); omega))
      obtain ⟨b0, b1, b2, b3, b4, b5, b6, b7⟩ := decU_bd hR.1
      have hd := hd wr HB.out
      have hju : (((decU (restU L)).2.1.toNat : Nat) : Int) = (decU (restU L)).2.1 := by omega
      rw [hju] at ht
      obtain ⟨⟨n0, n1, n2⟩, n3, n4, n5⟩ := hN
      obtain ⟨⟨t0, t1, t2⟩, t3, t4, t5⟩ := HT.out
      have HGG := Lib.hid hg
      by_cases he : (decU (restU L)).2.2 = 0
      · have HE := Lib.hid he
        rw [he] at hd
        have HTL := Lib.hid (show Rd (restU (restU L)) (tlV u0 (decU (restU L)).2.1.toNat) w from hT.out)
        obtain ⟨m, hm⟩ : ∃ m, (decU (restU L)).1 = m := ⟨_, rfl⟩
        have HM := Lib.hid hm
        rw [hm] at hd b0 b1
        generalize (decU (restU L)).2.1 = j at *
        generalize tlV u0 j.toNat = u at *
        clear hT hm he hju hg hR b2 b3 b4 b5 b6 b7
        go_wp2_with (go_at_call 31; refine hd.mono ?_; rintro e w' ⟨rfl, rfl⟩)
        go_roundw
        case rel =>
          refine ⟨?_, by have := HGG.out; simp; omega, Lib.hid (bset HB.out _ _ _ (by omega)), ?_⟩
          · exact .inr (.inr (.inl ⟨rfl, HE0.out, HE.out, HTL.out, by rw [HM0.out, HM.out]; exact ⟨⟨by go_simp, by go_simp, by go_simp⟩, by go_simp, by go_simp, by go_simp⟩⟩))
          · exact ⟨⟨by go_simp, by go_simp, by go_simp⟩, by go_simp, by go_simp, by go_simp⟩
        case measure => simp [intOf]
      · have he' : ((decU (restU L)).2.2 != 0) = true := by simp [he]
        have HZ : Hid (RES = (0, 0, false, 2)) := Lib.hid (by rw [HRES.out, if_pos (.inr (.inl he))])
        generalize (decU (restU L)).2.2 = e at *
        generalize (decU (restU L)).2.1 = j at *
        generalize (decU (restU L)).1 = m at *
        clear hT he hju hg hR b0 b1 b2 b3 b4 b5 b6 b7 ht
        go_wp2_with (go_at_call 31; refine hd.mono ?_; rintro e w' ⟨rfl, rfl⟩)
        refine bodyPost_ret (v := .tuple #[.agg #[.int .i64 0, .int .i64 0, .bool false], .int .i64 2]) (by simp [results, Try.results19, go_sem, *]) rfl ⟨by rw [HZ.out], ?_⟩
        exact bset (bset (bset HB.out _ _ _ (by omega)) _ _ _ (by omega)) _ _ _ (by omega)
    · obtain ⟨a1, hm0⟩ : ∃ m, (decU L).1 = m := ⟨_, rfl⟩
      have HM0 := Lib.hid hm0
      have HE0 := Lib.hid e0
      rw [hm0] at hN
      clear hm0 e0
      obtain ⟨a2, hm1⟩ : ∃ m, (decU (restU L)).1 = m := ⟨_, rfl⟩
      have HM1 := Lib.hid hm1
      have HE1 := Lib.hid e1
      rw [hm1] at hN
      clear hm1 e1
      have hd := fun w' (hb : Below w.heap.size w w') => decUint_any (restU (restU L)) u0 w' (hR.below hb)
      have ht := fun w => tlV_run hR (decU (restU (restU L))).2.1.toNat (by have := (decU_bd hR.1); omega) w
      have hT := Lib.hid (hR.tl (decU (restU (restU L))).2.1.toNat (by have := (decU_bd hR.1); omega))
      obtain ⟨b0, b1, b2, b3, b4, b5, b6, b7⟩ := decU_bd hR.1
      have hd := hd wr HB.out
      have hju : (((decU (restU (restU L))).2.1.toNat : Nat) : Int) = (decU (restU (restU L))).2.1 := by omega
      rw [hju] at ht
      obtain ⟨⟨n0, n1, n2⟩, n3, n4, n5⟩ := hN
      obtain ⟨⟨t0, t1, t2⟩, t3, t4, t5⟩ := HT.out
      have HGG := Lib.hid hg
      by_cases he : (decU (restU (restU L))).2.2 = 0
      · have HE := Lib.hid he
        rw [he] at hd
        have HTL := Lib.hid (show Rd (restU (restU (restU L))) (tlV u0 (decU (restU (restU L))).2.1.toNat) w from hT.out)
        obtain ⟨m, hm⟩ : ∃ m, (decU (restU (restU L))).1 = m := ⟨_, rfl⟩
        have HM := Lib.hid hm
        rw [hm] at hd b0 b1
        generalize (decU (restU (restU L))).2.1 = j at *
        generalize tlV u0 j.toNat = u at *
        clear hT hm he hju hg hR b2 b3 b4 b5 b6 b7
        go_wp2_with (go_at_call 31; refine hd.mono ?_; rintro e w' ⟨rfl, rfl⟩)
        go_roundw
        case rel =>
          refine ⟨?_, by have := HGG.out; simp; omega, Lib.hid (bset HB.out _ _ _ (by omega)), ?_⟩
          · exact .inr (.inr (.inr ⟨rfl, HE0.out, HE1.out, HE.out, HTL.out, by rw [HM0.out, HM1.out, HM.out]; exact ⟨⟨by go_simp, by go_simp, by go_simp⟩, by go_simp, by go_simp, by go_simp⟩⟩))
          · exact ⟨⟨by go_simp, by go_simp, by go_simp⟩, by go_simp, by go_simp, by go_simp⟩
        case measure => simp [intOf]
      · have he' : ((decU (restU (restU L))).2.2 != 0) = true := by simp [he]
        have HZ : Hid (RES = (0, 0, false, 2)) := Lib.hid (by rw [HRES.out, if_pos (.inr (.inr (.inl he)))])
        generalize (decU (restU (restU L))).2.2 = e at *
        generalize (decU (restU (restU L))).2.1 = j at *
        generalize (decU (restU (restU L))).1 = m at *
        clear hT he hju hg hR b0 b1 b2 b3 b4 b5 b6 b7 ht
        go_wp2_with (go_at_call 31; refine hd.mono ?_; rintro e w' ⟨rfl, rfl⟩)
        refine bodyPost_ret (v := .tuple #[.agg #[.int .i64 0, .int .i64 0, .bool false], .int .i64 2]) (by simp [results, Try.results19, go_sem, *]) rfl ⟨by rw [HZ.out], ?_⟩
        exact bset (bset (bset HB.out _ _ _ (by omega)) _ _ _ (by omega)) _ _ _ (by omega)
    · have by0 := decU_bd HR0.out.1
      have BD0 := decU_bd hR.1
      have HBA := Lib.hid (show 0 ≤ (decU L).1 ∧ (decU L).1 ≤ 4611686018427387904 ∧ 0 ≤ (decU (restU L)).1 ∧ (decU (restU L)).1 ≤ 4611686018427387904 ∧ 0 ≤ (decU (restU (restU L))).1 ∧ (decU (restU (restU L))).1 ≤ 4611686018427387904 from by
        have q0 := decU_bd HR0.out.1
        have q1 := decU_bd (show Byt (restU L) from HR0.out.1.drop _)
        have q2 := decU_bd (show Byt (restU (restU L)) from (show Byt (restU L) from HR0.out.1.drop _).drop _)
        omega)
      clear by0 BD0
      have HE0 := Lib.hid e0
      have HE1 := Lib.hid e1
      have HE2 := Lib.hid e2
      obtain ⟨⟨n0, n1, n2⟩, n3, n4, n5⟩ := hN
      obtain ⟨⟨t0, t1, t2⟩, t3, t4, t5⟩ := HT.out
      have HGG := Lib.hid hg
      obtain ⟨q0, q1, q2, q3, q4, q5⟩ := HBA.out
      have hv := fun w => tval_any (decU L).1 (decU (restU L)).1 ((decU (restU (restU L))).1 == 1) w (by omega) (by omega) (by omega) (by omega)
      have HV := Lib.hid (show RES = if (decU L).2.2 ≠ 0 ∨ (decU (restU L)).2.2 ≠ 0 ∨ (decU (restU (restU L))).2.2 ≠ 0 ∨ restU (restU (restU L)) ≠ [] ∨ 1 < (decU (restU (restU L))).1 ∨ valT (decU L).1 (decU (restU L)).1 ≠ 0 then (0, 0, false, 2)
        else ((decU L).1, (decU (restU L)).1, (decU (restU (restU L))).1 == 1, 0) from HRES.out)
      have hg4 : w.heap.size ≤ wr.heap.size := by omega
      clear e0 e1 e2 hg
      generalize (decU L).1 = x at *
      generalize (decU (restU L)).1 = y at *
      generalize (decU (restU (restU L))).1 = z at *
      generalize restU (restU (restU L)) = R at *
      generalize valT x y = E at *
      obtain ⟨hy, a, cap, rfl, h1, h2, h3⟩ := hR
      clear hy h3
      unfold maxLen at h2
      by_cases hl : 0 < R.length
      · have HZ : Hid (RES = (0, 0, false, 2)) := Lib.hid (by rw [HV.out, if_pos (.inr (.inr (.inr (.inl (fun h => by rw [h] at hl; simp at hl)))))])
        have hl2 : (0 : Int) < (R.length : Int) := by omega
        go_wp2
        refine bodyPost_ret (v := .tuple #[.agg #[.int .i64 0, .int .i64 0, .bool false], .int .i64 2]) (by simp [results, Try.results19, go_sem, *]) rfl ⟨by rw [HZ.out], ?_⟩
        exact bal (bset (bset (bset HB.out _ _ _ (by omega)) _ _ _ (by omega)) _ _ _ (by omega)) _
      · obtain rfl : R = [] := List.eq_nil_of_length_eq_zero (by omega)
        by_cases hz : 1 < z
        · have HZ : Hid (RES = (0, 0, false, 2)) := Lib.hid (by rw [HV.out, if_pos (.inr (.inr (.inr (.inr (.inl hz)))))])
          go_wp2
          refine bodyPost_ret (v := .tuple #[.agg #[.int .i64 0, .int .i64 0, .bool false], .int .i64 2]) (by simp [results, Try.results19, go_sem, *]) rfl ⟨by rw [HZ.out], ?_⟩
          exact bal (bset (bset (bset HB.out _ _ _ (by omega)) _ _ _ (by omega)) _ _ _ (by omega)) _
        · by_cases hE : E = 0
          · have HZ : Hid (RES = (x, y, z == 1, 0)) := Lib.hid (by rw [HV.out, if_neg (by rintro (h | h | h | h | h | h); exact h HE0.out; exact h HE1.out; exact h HE2.out; exact h rfl; exact hz h; exact h hE)])
            subst hE
            go_wp2_with (go_at_call 12; refine (hv _).mono ?_; rintro e w5 ⟨rfl, hb5⟩; have B5 := bgo (bal HB.out _) hb5; obtain ⟨hc5, hf5⟩ := bcell hb5; have hs5 : wr.heap.size < w5.heap.size := (by have := hb5.size; simp at this; omega); have hs6 : w.heap.size < w5.heap.size := (by have := HGG.out; omega); have c50 : w5.cell? ⟨w.heap.size, 0, none⟩ = some (.int .i64 0) := (by go_simp); have c51 : w5.cell? ⟨w.heap.size, 1, none⟩ = some (.int .i64 0) := (by go_simp); have c52 : w5.cell? ⟨w.heap.size, 2, none⟩ = some (.bool false) := (by go_simp); clear hb5)
            refine bodyPost_ret (v := .tuple #[.agg #[.int .i64 x, .int .i64 y, .bool (z == 1)], .int .i64 0]) (by simp [results, Try.results19, go_sem, *]) rfl ⟨by rw [HZ.out], ?_⟩
            exact bset (bset (bset B5 _ _ _ (by omega)) _ _ _ (by omega)) _ _ _ (by omega)
          · have HZ : Hid (RES = (0, 0, false, 2)) := Lib.hid (by rw [HV.out, if_pos (.inr (.inr (.inr (.inr (.inr hE)))))])
            have hE2 : (E != 0) = true := by simp [hE]
            clear hE
            go_wp2_with (go_at_call 12; refine (hv _).mono ?_; rintro e w5 ⟨rfl, hb5⟩; have B5 := bgo (bal HB.out _) hb5; obtain ⟨hc5, hf5⟩ := bcell hb5; have hs5 : wr.heap.size < w5.heap.size := (by have := hb5.size; simp at this; omega); have hs6 : w.heap.size < w5.heap.size := (by have := HGG.out; omega); have c50 : w5.cell? ⟨w.heap.size, 0, none⟩ = some (.int .i64 0) := (by go_simp); have c51 : w5.cell? ⟨w.heap.size, 1, none⟩ = some (.int .i64 0) := (by go_simp); have c52 : w5.cell? ⟨w.heap.size, 2, none⟩ = some (.bool false) := (by go_simp); clear hb5)
            refine bodyPost_ret (v := .tuple #[.agg #[.int .i64 0, .int .i64 0, .bool false], .int .i64 2]) (by simp [results, Try.results19, go_sem, *]) rfl ⟨by rw [HZ.out], ?_⟩
            exact bset (bset (bset B5 _ _ _ (by omega)) _ _ _ (by omega)) _ _ _ (by omega)
end Go.Proofs.Ytjpinnoolnhphaa
