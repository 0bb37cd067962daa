/- The contract of the reference's DecodeTally. -/
import Derived.Test.YtjpinnoolnhphaaTallyDec
import Derived.Test.YtjpinnoolnhphaaRTally
import Derived.Test.YtjpinnoolnhphaaReader
namespace Go.Proofs.Ytjpinnoolnhphaa
open Go.RowKit
set_option linter.unusedVariables false
set_option linter.unusedSimpArgs false
/-- A reader in memory: its bytes, how far it is, whether something was wrong. -/
def RSt (g : Nat) (v : Value) (k : Nat) (b : Bool) (w : World) : Prop :=
  (w.cell? ⟨g, 0, none⟩ = some v ∧ w.cell? ⟨g, 1, none⟩ = some (.int .i64 (k : Int)) ∧ w.cell? ⟨g, 2, none⟩ = some (.bool b)) ∧
    w.frozen? ⟨g, 0, none⟩ = false ∧ w.frozen? ⟨g, 1, none⟩ = false ∧ w.frozen? ⟨g, 2, none⟩ = false
theorem RSt.number (g : Nat) (L : List Int) (v : Value) (k : Nat) (M : Int) (w : World) (h : Rd L v w) (hk : k ≤ L.length) (M0 : -9223372036854775808 ≤ M) (M1 : M ≤ 9223372036854775807) (hs : RSt g v k false w) (hg : numG (L.drop k) M = true) :
    Calls Try.prog 32 #[.pointer (some ⟨g, 0, none⟩), .int .i64 M] w fun e w' =>
      e = .returned (.int .i64 (decU (L.drop k)).1) ∧ RSt g v (k + (decU (L.drop k)).2.1.toNat) false w' ∧ Below g w w' := by
  obtain ⟨⟨c0, c1, c2⟩, f0, f1, f2⟩ := hs
  refine (number_good g L v k M w h hk M0 M1 c0 c1 c2 f1 hg).mono ?_
  rintro e w' ⟨rfl, m, rfl⟩
  have hb := (decU_bd (h.tl k hk).1).2.2.1
  have e1 : (k : Int) + (decU (L.drop k)).2.1 = ((k + (decU (L.drop k)).2.1.toNat : Nat) : Int) := by omega
  rw [e1]
  refine ⟨rfl, ⟨⟨by go_simp, by go_simp, by go_simp⟩, by go_simp, by go_simp, by go_simp⟩, ?_⟩
  exact below_drewN ((Below.refl g w).setCell (p := ⟨g, 1, none⟩) (Nat.le_refl _) _) _
theorem RSt.wrong (g : Nat) (L : List Int) (v : Value) (k : Nat) (b : Bool) (M : Int) (w : World) (h : Rd L v w) (hk : k ≤ L.length) (M0 : -9223372036854775808 ≤ M) (M1 : M ≤ 9223372036854775807) (hs : RSt g v k b w) (hg : b = true ∨ numG (L.drop k) M = false) :
    Calls Try.prog 32 #[.pointer (some ⟨g, 0, none⟩), .int .i64 M] w fun e w' =>
      e = .returned (.int .i64 0) ∧ RSt g v k true w' ∧ Below g w w' := by
  obtain ⟨⟨c0, c1, c2⟩, f0, f1, f2⟩ := hs
  refine (number_bad g L v k b M w h hk M0 M1 c0 c1 c2 f2 hg).mono ?_
  rintro e w' ⟨rfl, m, rfl⟩
  refine ⟨rfl, ⟨⟨by go_simp, by go_simp, by go_simp⟩, by go_simp, by go_simp, by go_simp⟩, ?_⟩
  exact below_drewN ((Below.refl g w).setCell (p := ⟨g, 2, none⟩) (Nat.le_refl _) _) _
theorem RSt.done (g : Nat) (L : List Int) (v : Value) (k : Nat) (b : Bool) (w : World) (h : Rd L v w) (hs : RSt g v k b w) :
    Calls Try.prog 33 #[.pointer (some ⟨g, 0, none⟩)] w fun e w' => e = .returned (.bool (!b && decide (k = L.length))) ∧ ∃ m, w' = w.drewN m := by
  obtain ⟨⟨c0, c1, c2⟩, f0, f1, f2⟩ := hs
  have := done_any g L v k b w h c0 c1 c2
  have e : decide ((k : Int) = (L.length : Int)) = decide (k = L.length) := by
    rw [Bool.eq_iff_iff]; simp only [decide_eq_true_eq]; omega
  rw [e] at this
  exact this
theorem numG_no {L : List Int} {M : Int} (h : numG L M = false) : (decU L).2.2 ≠ 0 ∨ M < (decU L).1 := by
  unfold numG at h
  by_cases he : (decU L).2.2 = 0
  · rw [he] at h
    exact .inr (by simpa using h)
  · exact .inl he
theorem numG_yes {L : List Int} {M : Int} (h : numG L M = true) : (decU L).2.2 = 0 ∧ (decU L).1 ≤ M := by
  unfold numG at h
  rw [Bool.and_eq_true, beq_iff_eq, decide_eq_true_eq] at h
  exact h
theorem dec_a {L : List Int} (h : numG L 4294967295 = false) : decTal L = (0, 0, false, 2) := by
  unfold decTal
  rw [if_pos]
  rcases numG_no h with h | h
  · exact .inl h
  · refine .inr (.inr (.inr (.inr (.inr ?_))))
    unfold valT
    rw [if_pos (.inl h)]
    decide
theorem dec_b {L : List Int} (h0 : numG L 4294967295 = true) (h : numG (restU L) 4294967295 = false) : decTal L = (0, 0, false, 2) := by
  unfold decTal
  rw [if_pos]
  have h0 := numG_yes h0
  rcases numG_no h with h | h
  · exact .inr (.inl h)
  · refine .inr (.inr (.inr (.inr (.inr ?_))))
    unfold valT
    rw [if_pos (.inr (.inr (by omega)))]
    decide
theorem dec_c {L : List Int} (h : numG (restU (restU L)) 1 = false) : decTal L = (0, 0, false, 2) := by
  unfold decTal
  rw [if_pos]
  rcases numG_no h with h | h
  · exact .inr (.inr (.inl h))
  · exact .inr (.inr (.inr (.inr (.inl h))))
theorem dec_d {L : List Int} (h1 : numG L 4294967295 = true) (h2 : numG (restU L) 4294967295 = true) (h3 : numG (restU (restU L)) 1 = true) :
    decTal L = if restU (restU (restU L)) = [] ∧ valT (decU L).1 (decU (restU L)).1 = 0 then ((decU L).1, (decU (restU L)).1, (decU (restU (restU L))).1 == 1, 0) else (0, 0, false, 2) := by
  have h1 := numG_yes h1
  have h2 := numG_yes h2
  have h3 := numG_yes h3
  unfold decTal
  by_cases h : restU (restU (restU L)) = [] ∧ valT (decU L).1 (decU (restU L)).1 = 0
  · rw [if_pos h, if_neg]
    rintro (g | g | g | g | g | g)
    · exact g h1.1
    · exact g h2.1
    · exact g h3.1
    · exact g h.1
    · omega
    · exact g h.2
  · rw [if_neg h, if_pos]
    by_cases g : restU (restU (restU L)) = []
    · exact .inr (.inr (.inr (.inr (.inr (fun e => h ⟨g, e⟩)))))
    · exact .inr (.inr (.inr (.inl g)))
/-- One of its readings. -/
theorem tal_keep {b : Nat} {x y : Int} {z : Bool} {w w' : World} (h : Tal3 b x y z w) (hb : Below (b + 1) w w') : Tal3 b x y z w' := by
  obtain ⟨⟨h0, h1, h2⟩, h3, h4, h5⟩ := h
  have hc : ∀ o, w'.cell? ⟨b, o, none⟩ = w.cell? ⟨b, o, none⟩ := fun o => hb.cell (p := ⟨b, o, none⟩) (Nat.lt_succ_self b)
  have hf : ∀ o, w'.frozen? ⟨b, o, none⟩ = w.frozen? ⟨b, o, none⟩ := fun o => hb.frozen (p := ⟨b, o, none⟩) (Nat.lt_succ_self b)
  exact ⟨⟨(hc _).trans h0, (hc _).trans h1, (hc _).trans h2⟩, (hf _).trans h3, (hf _).trans h4, (hf _).trans h5⟩
theorem rst_keep {g : Nat} {v : Value} {k : Nat} {b : Bool} {w w' : World} (h : RSt g v k b w) (hb : Below w.heap.size w w') (hg : g < w.heap.size) : RSt g v k b w' := by
  obtain ⟨⟨h0, h1, h2⟩, h3, h4, h5⟩ := h
  obtain ⟨hc, hf⟩ := bcell hb
  exact ⟨⟨(hc _ _ hg).trans h0, (hc _ _ hg).trans h1, (hc _ _ hg).trans h2⟩, (hf _ _ hg).trans h3, (hf _ _ hg).trans h4, (hf _ _ hg).trans h5⟩
set_option maxRecDepth 100000 in
set_option maxHeartbeats 4000000 in
theorem rtdec_any (L : List Int) (v : Value) (w : World) (h : Rd L v w) :
    Calls Try.prog 20 #[v] w fun e w' =>
      e = .returned (.tuple #[.agg #[.int .i64 (decTal L).1, .int .i64 (decTal L).2.1, .bool (decTal L).2.2.1], .int .i64 (decTal L).2.2.2]) ∧ Below w.heap.size w w' := by
  obtain ⟨a, len, cap, rfl⟩ : ∃ a len cap, v = .slice a len cap := by
    obtain ⟨_, a, cap, hv, _⟩ := h
    exact ⟨a, _, cap, hv⟩
  obtain ⟨v, hv⟩ : ∃ v, v = Value.slice a len cap := ⟨_, rfl⟩
  rw [← hv] at h
  have HVS := Lib.hid hv
  clear hv
  have HR := Lib.hid h
  obtain ⟨j1, hj1⟩ : ∃ j, (decU L).2.1.toNat = j := ⟨_, rfl⟩
  obtain ⟨j2, hj2⟩ : ∃ j, (decU (restU L)).2.1.toNat = j := ⟨_, rfl⟩
  obtain ⟨j3, hj3⟩ : ∃ j, (decU (restU (restU L))).2.1.toNat = j := ⟨_, rfl⟩
  have hy := h.1
  have d1 := decU_bd hy
  have hy1 : Byt (restU L) := hy.drop _
  have hy2 : Byt (restU (restU L)) := hy1.drop _
  have d2 := decU_bd hy1
  have d3 := decU_bd hy2
  have q1 : restU L = L.drop j1 := by unfold restU; rw [hj1]
  have q2 : restU (restU L) = L.drop (j1 + j2) := by
    show (restU L).drop (decU (restU L)).2.1.toNat = _
    rw [hj2, q1, List.drop_drop]
  have q3 : restU (restU (restU L)) = L.drop (j1 + j2 + j3) := by
    show (restU (restU L)).drop (decU (restU (restU L))).2.1.toNat = _
    rw [hj3, q2, List.drop_drop]
  have hk1 : j1 ≤ L.length := by omega
  have hk2 : j1 + j2 ≤ L.length := by
    have : j2 ≤ (restU L).length := by omega
    rw [q1, List.length_drop] at this
    omega
  have hk3 : j1 + j2 + j3 ≤ L.length := by
    have : j3 ≤ (restU (restU L)).length := by omega
    rw [q2, List.length_drop] at this
    omega
  have q4 : restU (restU (restU L)) = [] ↔ j1 + j2 + j3 = L.length := by
    rw [q3, List.drop_eq_nil_iff]
    omega
  have HK := Lib.hid (show j1 ≤ L.length ∧ j1 + j2 ≤ L.length ∧ j1 + j2 + j3 ≤ L.length from ⟨hk1, hk2, hk3⟩)
  have HD := Lib.hid (And.intro d1 (And.intro d2 d3))
  have HQ4 := Lib.hid q4
  have HJ := Lib.hid (And.intro hj1 (And.intro (q1 ▸ hj2) (q2 ▸ hj3)))
  have HQ := Lib.hid (And.intro q1 q2)
  have hA := @dec_a L
  have hB := @dec_b L
  have hC := @dec_c L
  have hDD := @dec_d L
  have HDA := Lib.hid (show numG L 4294967295 = false → decTal L = (0, 0, false, 2) from dec_a)
  have HDB := Lib.hid (show numG L 4294967295 = true → numG (restU L) 4294967295 = false → decTal L = (0, 0, false, 2) from dec_b)
  have HDC := Lib.hid (show numG (restU (restU L)) 1 = false → decTal L = (0, 0, false, 2) from dec_c)
  have HDE := Lib.hid (show numG L 4294967295 = true → numG (restU L) 4294967295 = true → numG (restU (restU L)) 1 = true → decTal L = if j1 + j2 + j3 = L.length ∧ valT (decU L).1 (decU (restU L)).1 = 0 then ((decU L).1, (decU (restU L)).1, (decU (restU (restU L))).1 == 1, 0) else (0, 0, false, 2) from
    fun a b c => by rw [dec_d a b c]; simp only [q4])
  have HV := Lib.hid (fun (s : Bool) (x : World) => rtval_any (decU L).1 (decU (restU L)).1 s x (by omega) (by omega) (by omega) (by omega))
  have n1 := fun (hg : numG L 4294967295 = true) (x : World) (hb : Below w.heap.size w x) (hs : RSt (w.heap.size + 1) v 0 false x) => by
    have := RSt.number (w.heap.size + 1) L v 0 4294967295 x (h.below hb) (Nat.zero_le _) (by decide) (by decide) hs hg
    rw [List.drop_zero, hj1, Nat.zero_add] at this
    exact this
  have n2 := fun (hg : numG (restU L) 4294967295 = true) (x : World) (hb : Below w.heap.size w x) (hs : RSt (w.heap.size + 1) v j1 false x) => by
    have := RSt.number (w.heap.size + 1) L v j1 4294967295 x (h.below hb) hk1 (by decide) (by decide) hs (q1 ▸ hg)
    rw [← q1, hj2] at this
    exact this
  have n3 := fun (hg : numG (restU (restU L)) 1 = true) (x : World) (hb : Below w.heap.size w x) (hs : RSt (w.heap.size + 1) v (j1 + j2) false x) => by
    have := RSt.number (w.heap.size + 1) L v (j1 + j2) 1 x (h.below hb) hk2 (by decide) (by decide) hs (q2 ▸ hg)
    rw [← q2, hj3] at this
    exact this
  have m1 := fun (hg : numG L 4294967295 = false) (x : World) (hb : Below w.heap.size w x) (hs : RSt (w.heap.size + 1) v 0 false x) =>
    RSt.wrong (w.heap.size + 1) L v 0 false 4294967295 x (h.below hb) (Nat.zero_le _) (by decide) (by decide) hs (.inr hg)
  have m2 := fun (hg : numG (restU L) 4294967295 = false) (x : World) (hb : Below w.heap.size w x) (hs : RSt (w.heap.size + 1) v j1 false x) =>
    RSt.wrong (w.heap.size + 1) L v j1 false 4294967295 x (h.below hb) hk1 (by decide) (by decide) hs (.inr (q1 ▸ hg))
  have m3 := fun (hg : numG (restU (restU L)) 1 = false) (x : World) (hb : Below w.heap.size w x) (hs : RSt (w.heap.size + 1) v (j1 + j2) false x) =>
    RSt.wrong (w.heap.size + 1) L v (j1 + j2) false 1 x (h.below hb) hk2 (by decide) (by decide) hs (.inr (q2 ▸ hg))
  have mm := fun (k : Nat) (hk : k ≤ L.length) (M : Int) (M0 : -9223372036854775808 ≤ M) (M1 : M ≤ 9223372036854775807) (x : World) (hb : Below w.heap.size w x) (hs : RSt (w.heap.size + 1) v k true x) =>
    RSt.wrong (w.heap.size + 1) L v k true M x (h.below hb) hk M0 M1 hs (.inl rfl)
  have dn := fun (k : Nat) (b : Bool) (o : Obj) (y : World) (hs : RSt (w.heap.size + 1) v k b y) (hb : Below w.heap.size w y) (hl : w.heap.size + 1 < y.heap.size) =>
    RSt.done (w.heap.size + 1) L v k b (y.alloc o) (h.below (bal hb o)) (rst_keep hs (b1 o) hl)
  generalize restU (restU (restU L)) = L3 at *
  generalize restU (restU L) = L2 at *
  generalize restU L = L1 at *
  clear q1 q2 q3 q4 d1 d2 d3 hy1 hy2 hy hj1 hj2 hj3 HJ HQ hA hB hC hDD h
  obtain ⟨RES, hRES⟩ : ∃ R, decTal L = R := ⟨_, rfl⟩
  rw [hRES]
  have HRES := Lib.hid hRES
  clear hRES
  generalize (decU L).1 = N0 at *
  generalize (decU L1).1 = N1 at *
  generalize (decU L2).1 = N2 at *
  have HN1 := Lib.hid n1
  have HN2 := Lib.hid n2
  have HN3 := Lib.hid n3
  have HM1 := Lib.hid m1
  have HM2 := Lib.hid m2
  have HM3 := Lib.hid m3
  have HMM := Lib.hid mm
  have HDN := Lib.hid dn
  clear n1 n2 n3 m1 m2 m3 mm dn
  by_cases ga : numG L 4294967295 = true
  · by_cases gb : numG L1 4294967295 = true
    · by_cases gc : numG L2 1 = true
      · have hd := HDE.out ga gb gc
        rw [HRES.out] at hd
        have GA := Lib.hid ga
        have GB := Lib.hid gb
        have GC := Lib.hid gc
        clear ga gb gc
        by_cases hl : j1 + j2 + j3 = L.length
        · have HL := Lib.hid hl
          by_cases hE : valT N0 N1 = 0
          · have HZ : Hid (RES = (N0, N1, N2 == 1, 0)) := Lib.hid (by rw [hd, if_pos ⟨hl, hE⟩])
            have HV := Lib.hid (fun s x => by have := HV.out s x; rw [hE] at this; exact this)
            clear hd hl hE
            go_enter Try.func20, Try.ntmps20
            go_wp2_with fail
            obtain ⟨y0, hy0⟩ : ∃ y0, y0 = (w.alloc (Obj.cells #[Value.int IntKind.i64 0, Value.int IntKind.i64 0, Value.bool false] 23)).alloc (Obj.cells #[Value.slice a len cap, Value.int IntKind.i64 0, Value.bool false] 56) := ⟨_, rfl⟩
            have S0 : Hid (RSt (w.heap.size + 1) v 0 false y0) := Lib.hid (by rw [hy0, HVS.out]; exact ⟨⟨by go_simp, by go_simp, by go_simp⟩, by go_simp, by go_simp, by go_simp⟩)
            have B0 : Hid (Below w.heap.size w y0) := Lib.hid (by rw [hy0]; exact b2 _ _)
            have T0 : Hid (Tal3 w.heap.size 0 0 false y0) := Lib.hid (by rw [hy0]; exact ⟨⟨by go_simp, by go_simp, by go_simp⟩, by go_simp, by go_simp, by go_simp⟩)
            have G0 : Hid (w.heap.size + 1 < y0.heap.size) := Lib.hid (by rw [hy0]; simp)
            rw [← hy0]
            clear hy0
            go_wp2_with fail
            go_at_call 32
            refine (HN1.out GA.out _ B0.out S0.out).mono ?_
            rintro e y1 ⟨rfl, s1, c1⟩
            have S1 := Lib.hid s1
            have B1 := Lib.hid (B0.out.trans (c1.mono (Nat.le_succ _)))
            have T1 := Lib.hid (tal_keep T0.out c1)
            have G1 : Hid (w.heap.size + 1 < y1.heap.size) := Lib.hid (Nat.lt_of_lt_of_le G0.out c1.size)
            clear s1 c1
            go_wp2_with fail
            go_at_call 32
            refine (HN2.out GB.out _ B1.out S1.out).mono ?_
            rintro e y2 ⟨rfl, s2, c2⟩
            have S2 := Lib.hid s2
            have B2 := Lib.hid (B1.out.trans (c2.mono (Nat.le_succ _)))
            have T2 := Lib.hid (tal_keep T1.out c2)
            have G2 : Hid (w.heap.size + 1 < y2.heap.size) := Lib.hid (Nat.lt_of_lt_of_le G1.out c2.size)
            clear s2 c2
            go_wp2_with fail
            go_at_call 32
            refine (HN3.out GC.out _ B2.out S2.out).mono ?_
            rintro e y3 ⟨rfl, s3, c3⟩
            have S3 := Lib.hid s3
            have B3 := Lib.hid (B2.out.trans (c3.mono (Nat.le_succ _)))
            have T3 := Lib.hid (tal_keep T2.out c3)
            have G3 : Hid (w.heap.size + 1 < y3.heap.size) := Lib.hid (Nat.lt_of_lt_of_le G2.out c3.size)
            clear s3 c3
            obtain ⟨⟨t0, t1, t2⟩, t3, t4, t5⟩ := T3.out
            have g1 : w.heap.size < y3.heap.size := by have := G3.out; omega
            have g2 : w.heap.size ≤ y3.heap.size := by omega
            go_wp2_with fail
            go_at_call 33
            refine (HDN.out (j1 + j2 + j3) false _ y3 S3.out B3.out G3.out).mono ?_
            rintro e y4 ⟨rfl, m4, rfl⟩
            rw [show (!false && decide (j1 + j2 + j3 = L.length)) = true by simp [HL.out]]
            have hv := HV.out (N2 == 1)
            have g3 : w.heap.size < y3.heap.size + 1 := by omega
            go_wp2_with (go_at_call 13; refine (hv _).mono ?_; rintro e w5 ⟨rfl, hb5⟩; have B5 := bgo (below_drewN (bal B3.out _) _) hb5; obtain ⟨hc5, hf5⟩ := bcell hb5; have hs5 : y3.heap.size < w5.heap.size := (by have := hb5.size; simp at this; omega); have hs6 : w.heap.size < w5.heap.size := (by omega); have c50 : w5.cell? ⟨w.heap.size, 0, none⟩ = some (.int .i64 0) := (by go_simp); have c51 : w5.cell? ⟨w.heap.size, 1, none⟩ = some (.int .i64 0) := (by go_simp); have c52 : w5.cell? ⟨w.heap.size, 2, none⟩ = some (.bool false) := (by go_simp); clear hb5)
            refine bodyPost_ret (v := .tuple #[.agg #[.int .i64 N0, .int .i64 N1, .bool (N2 == 1)], .int .i64 0]) (by simp [results, Try.results20, go_sem, *]) rfl ⟨by rw [HZ.out], ?_⟩
            exact bset (bset (bset B5 _ _ _ (by omega)) _ _ _ (by omega)) _ _ _ (by omega)
          · have HZ : Hid (RES = (0, 0, false, 2)) := Lib.hid (by rw [hd, if_neg (fun h => hE h.2)])
            have HV := Lib.hid (fun s x => HV.out s x)
            generalize valT N0 N1 = E at *
            have hE2 : (E != 0) = true := by simp [hE]
            clear hd hl hE
            go_enter Try.func20, Try.ntmps20
            go_wp2_with fail
            obtain ⟨y0, hy0⟩ : ∃ y0, y0 = (w.alloc (Obj.cells #[Value.int IntKind.i64 0, Value.int IntKind.i64 0, Value.bool false] 23)).alloc (Obj.cells #[Value.slice a len cap, Value.int IntKind.i64 0, Value.bool false] 56) := ⟨_, rfl⟩
            have S0 : Hid (RSt (w.heap.size + 1) v 0 false y0) := Lib.hid (by rw [hy0, HVS.out]; exact ⟨⟨by go_simp, by go_simp, by go_simp⟩, by go_simp, by go_simp, by go_simp⟩)
            have B0 : Hid (Below w.heap.size w y0) := Lib.hid (by rw [hy0]; exact b2 _ _)
            have T0 : Hid (Tal3 w.heap.size 0 0 false y0) := Lib.hid (by rw [hy0]; exact ⟨⟨by go_simp, by go_simp, by go_simp⟩, by go_simp, by go_simp, by go_simp⟩)
            have G0 : Hid (w.heap.size + 1 < y0.heap.size) := Lib.hid (by rw [hy0]; simp)
            rw [← hy0]
            clear hy0
            go_wp2_with fail
            go_at_call 32
            refine (HN1.out GA.out _ B0.out S0.out).mono ?_
            rintro e y1 ⟨rfl, s1, c1⟩
            have S1 := Lib.hid s1
            have B1 := Lib.hid (B0.out.trans (c1.mono (Nat.le_succ _)))
            have T1 := Lib.hid (tal_keep T0.out c1)
            have G1 : Hid (w.heap.size + 1 < y1.heap.size) := Lib.hid (Nat.lt_of_lt_of_le G0.out c1.size)
            clear s1 c1
            go_wp2_with fail
            go_at_call 32
            refine (HN2.out GB.out _ B1.out S1.out).mono ?_
            rintro e y2 ⟨rfl, s2, c2⟩
            have S2 := Lib.hid s2
            have B2 := Lib.hid (B1.out.trans (c2.mono (Nat.le_succ _)))
            have T2 := Lib.hid (tal_keep T1.out c2)
            have G2 : Hid (w.heap.size + 1 < y2.heap.size) := Lib.hid (Nat.lt_of_lt_of_le G1.out c2.size)
            clear s2 c2
            go_wp2_with fail
            go_at_call 32
            refine (HN3.out GC.out _ B2.out S2.out).mono ?_
            rintro e y3 ⟨rfl, s3, c3⟩
            have S3 := Lib.hid s3
            have B3 := Lib.hid (B2.out.trans (c3.mono (Nat.le_succ _)))
            have T3 := Lib.hid (tal_keep T2.out c3)
            have G3 : Hid (w.heap.size + 1 < y3.heap.size) := Lib.hid (Nat.lt_of_lt_of_le G2.out c3.size)
            clear s3 c3
            obtain ⟨⟨t0, t1, t2⟩, t3, t4, t5⟩ := T3.out
            have g1 : w.heap.size < y3.heap.size := by have := G3.out; omega
            have g2 : w.heap.size ≤ y3.heap.size := by omega
            go_wp2_with fail
            go_at_call 33
            refine (HDN.out (j1 + j2 + j3) false _ y3 S3.out B3.out G3.out).mono ?_
            rintro e y4 ⟨rfl, m4, rfl⟩
            rw [show (!false && decide (j1 + j2 + j3 = L.length)) = true by simp [HL.out]]
            have hv := HV.out (N2 == 1)
            have g3 : w.heap.size < y3.heap.size + 1 := by omega
            go_wp2_with (go_at_call 13; refine (hv _).mono ?_; rintro e w5 ⟨rfl, hb5⟩; have B5 := bgo (below_drewN (bal B3.out _) _) hb5; obtain ⟨hc5, hf5⟩ := bcell hb5; have hs5 : y3.heap.size < w5.heap.size := (by have := hb5.size; simp at this; omega); have hs6 : w.heap.size < w5.heap.size := (by omega); have c50 : w5.cell? ⟨w.heap.size, 0, none⟩ = some (.int .i64 0) := (by go_simp); have c51 : w5.cell? ⟨w.heap.size, 1, none⟩ = some (.int .i64 0) := (by go_simp); have c52 : w5.cell? ⟨w.heap.size, 2, none⟩ = some (.bool false) := (by go_simp); clear hb5)
            refine bodyPost_ret (v := .tuple #[.agg #[.int .i64 0, .int .i64 0, .bool false], .int .i64 2]) (by simp [results, Try.results20, go_sem, *]) rfl ⟨by rw [HZ.out], ?_⟩
            exact bset (bset (bset B5 _ _ _ (by omega)) _ _ _ (by omega)) _ _ _ (by omega)
        · have HZ : Hid (RES = (0, 0, false, 2)) := Lib.hid (by rw [hd, if_neg (fun h => hl h.1)])
          have HL := Lib.hid hl
          clear hd hl
          go_enter Try.func20, Try.ntmps20
          go_wp2_with fail
          obtain ⟨y0, hy0⟩ : ∃ y0, y0 = (w.alloc (Obj.cells #[Value.int IntKind.i64 0, Value.int IntKind.i64 0, Value.bool false] 23)).alloc (Obj.cells #[Value.slice a len cap, Value.int IntKind.i64 0, Value.bool false] 56) := ⟨_, rfl⟩
          have S0 : Hid (RSt (w.heap.size + 1) v 0 false y0) := Lib.hid (by rw [hy0, HVS.out]; exact ⟨⟨by go_simp, by go_simp, by go_simp⟩, by go_simp, by go_simp, by go_simp⟩)
          have B0 : Hid (Below w.heap.size w y0) := Lib.hid (by rw [hy0]; exact b2 _ _)
          have T0 : Hid (Tal3 w.heap.size 0 0 false y0) := Lib.hid (by rw [hy0]; exact ⟨⟨by go_simp, by go_simp, by go_simp⟩, by go_simp, by go_simp, by go_simp⟩)
          have G0 : Hid (w.heap.size + 1 < y0.heap.size) := Lib.hid (by rw [hy0]; simp)
          rw [← hy0]
          clear hy0
          go_wp2_with fail
          go_at_call 32
          refine (HN1.out GA.out _ B0.out S0.out).mono ?_
          rintro e y1 ⟨rfl, s1, c1⟩
          have S1 := Lib.hid s1
          have B1 := Lib.hid (B0.out.trans (c1.mono (Nat.le_succ _)))
          have T1 := Lib.hid (tal_keep T0.out c1)
          have G1 : Hid (w.heap.size + 1 < y1.heap.size) := Lib.hid (Nat.lt_of_lt_of_le G0.out c1.size)
          clear s1 c1
          go_wp2_with fail
          go_at_call 32
          refine (HN2.out GB.out _ B1.out S1.out).mono ?_
          rintro e y2 ⟨rfl, s2, c2⟩
          have S2 := Lib.hid s2
          have B2 := Lib.hid (B1.out.trans (c2.mono (Nat.le_succ _)))
          have T2 := Lib.hid (tal_keep T1.out c2)
          have G2 : Hid (w.heap.size + 1 < y2.heap.size) := Lib.hid (Nat.lt_of_lt_of_le G1.out c2.size)
          clear s2 c2
          go_wp2_with fail
          go_at_call 32
          refine (HN3.out GC.out _ B2.out S2.out).mono ?_
          rintro e y3 ⟨rfl, s3, c3⟩
          have S3 := Lib.hid s3
          have B3 := Lib.hid (B2.out.trans (c3.mono (Nat.le_succ _)))
          have T3 := Lib.hid (tal_keep T2.out c3)
          have G3 : Hid (w.heap.size + 1 < y3.heap.size) := Lib.hid (Nat.lt_of_lt_of_le G2.out c3.size)
          clear s3 c3
          obtain ⟨⟨t0, t1, t2⟩, t3, t4, t5⟩ := T3.out
          have g1 : w.heap.size < y3.heap.size := by have := G3.out; omega
          have g2 : w.heap.size ≤ y3.heap.size := by omega
          go_wp2_with fail
          go_at_call 33
          refine (HDN.out (j1 + j2 + j3) false _ y3 S3.out B3.out G3.out).mono ?_
          rintro e y4 ⟨rfl, m4, rfl⟩
          rw [show (!false && decide (j1 + j2 + j3 = L.length)) = false by simp [HL.out]]
          go_wp2
          refine bodyPost_ret (v := .tuple #[.agg #[.int .i64 0, .int .i64 0, .bool false], .int .i64 2]) (by simp [results, Try.results20, go_sem, *]) rfl ⟨by rw [HZ.out], ?_⟩
          first
            | exact below_drewN (bal (bset (bset (bset B3.out _ _ _ (by omega)) _ _ _ (by omega)) _ _ _ (by omega)) _) _
            | exact bset (bset (bset (below_drewN (bal B3.out _) _) _ _ _ (by omega)) _ _ _ (by omega)) _ _ _ (by omega)
      · have gc' : numG L2 1 = false := by simpa using gc
        have HZ : Hid (RES = (0, 0, false, 2)) := Lib.hid (by rw [← HRES.out]; exact HDC.out gc')
        have GA := Lib.hid ga
        have GB := Lib.hid gb
        have GC := Lib.hid gc'
        clear ga gb gc gc'
        go_enter Try.func20, Try.ntmps20
        go_wp2_with fail
        obtain ⟨y0, hy0⟩ : ∃ y0, y0 = (w.alloc (Obj.cells #[Value.int IntKind.i64 0, Value.int IntKind.i64 0, Value.bool false] 23)).alloc (Obj.cells #[Value.slice a len cap, Value.int IntKind.i64 0, Value.bool false] 56) := ⟨_, rfl⟩
        have S0 : Hid (RSt (w.heap.size + 1) v 0 false y0) := Lib.hid (by rw [hy0, HVS.out]; exact ⟨⟨by go_simp, by go_simp, by go_simp⟩, by go_simp, by go_simp, by go_simp⟩)
        have B0 : Hid (Below w.heap.size w y0) := Lib.hid (by rw [hy0]; exact b2 _ _)
        have T0 : Hid (Tal3 w.heap.size 0 0 false y0) := Lib.hid (by rw [hy0]; exact ⟨⟨by go_simp, by go_simp, by go_simp⟩, by go_simp, by go_simp, by go_simp⟩)
        have G0 : Hid (w.heap.size + 1 < y0.heap.size) := Lib.hid (by rw [hy0]; simp)
        rw [← hy0]
        clear hy0
        go_wp2_with fail
        go_at_call 32
        refine (HN1.out GA.out _ B0.out S0.out).mono ?_
        rintro e y1 ⟨rfl, s1, c1⟩
        have S1 := Lib.hid s1
        have B1 := Lib.hid (B0.out.trans (c1.mono (Nat.le_succ _)))
        have T1 := Lib.hid (tal_keep T0.out c1)
        have G1 : Hid (w.heap.size + 1 < y1.heap.size) := Lib.hid (Nat.lt_of_lt_of_le G0.out c1.size)
        clear s1 c1
        go_wp2_with fail
        go_at_call 32
        refine (HN2.out GB.out _ B1.out S1.out).mono ?_
        rintro e y2 ⟨rfl, s2, c2⟩
        have S2 := Lib.hid s2
        have B2 := Lib.hid (B1.out.trans (c2.mono (Nat.le_succ _)))
        have T2 := Lib.hid (tal_keep T1.out c2)
        have G2 : Hid (w.heap.size + 1 < y2.heap.size) := Lib.hid (Nat.lt_of_lt_of_le G1.out c2.size)
        clear s2 c2
        go_wp2_with fail
        go_at_call 32
        refine (HM3.out GC.out _ B2.out S2.out).mono ?_
        rintro e y3 ⟨rfl, s3, c3⟩
        have S3 := Lib.hid s3
        have B3 := Lib.hid (B2.out.trans (c3.mono (Nat.le_succ _)))
        have T3 := Lib.hid (tal_keep T2.out c3)
        have G3 : Hid (w.heap.size + 1 < y3.heap.size) := Lib.hid (Nat.lt_of_lt_of_le G2.out c3.size)
        clear s3 c3
        obtain ⟨⟨t0, t1, t2⟩, t3, t4, t5⟩ := T3.out
        have g1 : w.heap.size < y3.heap.size := by have := G3.out; omega
        have g2 : w.heap.size ≤ y3.heap.size := by omega
        go_wp2_with fail
        go_at_call 33
        refine (HDN.out (j1 + j2) true _ y3 S3.out B3.out G3.out).mono ?_
        rintro e y4 ⟨rfl, m4, rfl⟩
        go_wp2
        refine bodyPost_ret (v := .tuple #[.agg #[.int .i64 0, .int .i64 0, .bool false], .int .i64 2]) (by simp [results, Try.results20, go_sem, *]) rfl ⟨by rw [HZ.out], ?_⟩
        first
          | exact below_drewN (bal (bset (bset (bset B3.out _ _ _ (by omega)) _ _ _ (by omega)) _ _ _ (by omega)) _) _
          | exact bset (bset (bset (below_drewN (bal B3.out _) _) _ _ _ (by omega)) _ _ _ (by omega)) _ _ _ (by omega)
    · have gb' : numG L1 4294967295 = false := by simpa using gb
      have HZ : Hid (RES = (0, 0, false, 2)) := Lib.hid (by rw [← HRES.out]; exact HDB.out ga gb')
      have GA := Lib.hid ga
      have GB := Lib.hid gb'
      clear ga gb gb'
      go_enter Try.func20, Try.ntmps20
      go_wp2_with fail
      obtain ⟨y0, hy0⟩ : ∃ y0, y0 = (w.alloc (Obj.cells #[Value.int IntKind.i64 0, Value.int IntKind.i64 0, Value.bool false] 23)).alloc (Obj.cells #[Value.slice a len cap, Value.int IntKind.i64 0, Value.bool false] 56) := ⟨_, rfl⟩
      have S0 : Hid (RSt (w.heap.size + 1) v 0 false y0) := Lib.hid (by rw [hy0, HVS.out]; exact ⟨⟨by go_simp, by go_simp, by go_simp⟩, by go_simp, by go_simp, by go_simp⟩)
      have B0 : Hid (Below w.heap.size w y0) := Lib.hid (by rw [hy0]; exact b2 _ _)
      have T0 : Hid (Tal3 w.heap.size 0 0 false y0) := Lib.hid (by rw [hy0]; exact ⟨⟨by go_simp, by go_simp, by go_simp⟩, by go_simp, by go_simp, by go_simp⟩)
      have G0 : Hid (w.heap.size + 1 < y0.heap.size) := Lib.hid (by rw [hy0]; simp)
      rw [← hy0]
      clear hy0
      go_wp2_with fail
      go_at_call 32
      refine (HN1.out GA.out _ B0.out S0.out).mono ?_
      rintro e y1 ⟨rfl, s1, c1⟩
      have S1 := Lib.hid s1
      have B1 := Lib.hid (B0.out.trans (c1.mono (Nat.le_succ _)))
      have T1 := Lib.hid (tal_keep T0.out c1)
      have G1 : Hid (w.heap.size + 1 < y1.heap.size) := Lib.hid (Nat.lt_of_lt_of_le G0.out c1.size)
      clear s1 c1
      go_wp2_with fail
      go_at_call 32
      refine (HM2.out GB.out _ B1.out S1.out).mono ?_
      rintro e y2 ⟨rfl, s2, c2⟩
      have S2 := Lib.hid s2
      have B2 := Lib.hid (B1.out.trans (c2.mono (Nat.le_succ _)))
      have T2 := Lib.hid (tal_keep T1.out c2)
      have G2 : Hid (w.heap.size + 1 < y2.heap.size) := Lib.hid (Nat.lt_of_lt_of_le G1.out c2.size)
      clear s2 c2
      go_wp2_with fail
      go_at_call 32
      refine (HMM.out j1 HK.out.1 1 (by decide) (by decide) _ B2.out S2.out).mono ?_
      rintro e y3 ⟨rfl, s3, c3⟩
      have S3 := Lib.hid s3
      have B3 := Lib.hid (B2.out.trans (c3.mono (Nat.le_succ _)))
      have T3 := Lib.hid (tal_keep T2.out c3)
      have G3 : Hid (w.heap.size + 1 < y3.heap.size) := Lib.hid (Nat.lt_of_lt_of_le G2.out c3.size)
      clear s3 c3
      obtain ⟨⟨t0, t1, t2⟩, t3, t4, t5⟩ := T3.out
      have g1 : w.heap.size < y3.heap.size := by have := G3.out; omega
      have g2 : w.heap.size ≤ y3.heap.size := by omega
      go_wp2_with fail
      go_at_call 33
      refine (HDN.out (j1) true _ y3 S3.out B3.out G3.out).mono ?_
      rintro e y4 ⟨rfl, m4, rfl⟩
      go_wp2
      refine bodyPost_ret (v := .tuple #[.agg #[.int .i64 0, .int .i64 0, .bool false], .int .i64 2]) (by simp [results, Try.results20, go_sem, *]) rfl ⟨by rw [HZ.out], ?_⟩
      first
        | exact below_drewN (bal (bset (bset (bset B3.out _ _ _ (by omega)) _ _ _ (by omega)) _ _ _ (by omega)) _) _
        | exact bset (bset (bset (below_drewN (bal B3.out _) _) _ _ _ (by omega)) _ _ _ (by omega)) _ _ _ (by omega)
  · have ga' : numG L 4294967295 = false := by simpa using ga
    have HZ : Hid (RES = (0, 0, false, 2)) := Lib.hid (by rw [← HRES.out]; exact HDA.out ga')
    have GA := Lib.hid ga'
    clear ga ga'
    go_enter Try.func20, Try.ntmps20
    go_wp2_with fail
    obtain ⟨y0, hy0⟩ : ∃ y0, y0 = (w.alloc (Obj.cells #[Value.int IntKind.i64 0, Value.int IntKind.i64 0, Value.bool false] 23)).alloc (Obj.cells #[Value.slice a len cap, Value.int IntKind.i64 0, Value.bool false] 56) := ⟨_, rfl⟩
    have S0 : Hid (RSt (w.heap.size + 1) v 0 false y0) := Lib.hid (by rw [hy0, HVS.out]; exact ⟨⟨by go_simp, by go_simp, by go_simp⟩, by go_simp, by go_simp, by go_simp⟩)
    have B0 : Hid (Below w.heap.size w y0) := Lib.hid (by rw [hy0]; exact b2 _ _)
    have T0 : Hid (Tal3 w.heap.size 0 0 false y0) := Lib.hid (by rw [hy0]; exact ⟨⟨by go_simp, by go_simp, by go_simp⟩, by go_simp, by go_simp, by go_simp⟩)
    have G0 : Hid (w.heap.size + 1 < y0.heap.size) := Lib.hid (by rw [hy0]; simp)
    rw [← hy0]
    clear hy0
    go_wp2_with fail
    go_at_call 32
    refine (HM1.out GA.out _ B0.out S0.out).mono ?_
    rintro e y1 ⟨rfl, s1, c1⟩
    have S1 := Lib.hid s1
    have B1 := Lib.hid (B0.out.trans (c1.mono (Nat.le_succ _)))
    have T1 := Lib.hid (tal_keep T0.out c1)
    have G1 : Hid (w.heap.size + 1 < y1.heap.size) := Lib.hid (Nat.lt_of_lt_of_le G0.out c1.size)
    clear s1 c1
    go_wp2_with fail
    go_at_call 32
    refine (HMM.out 0 (Nat.zero_le _) 4294967295 (by decide) (by decide) _ B1.out S1.out).mono ?_
    rintro e y2 ⟨rfl, s2, c2⟩
    have S2 := Lib.hid s2
    have B2 := Lib.hid (B1.out.trans (c2.mono (Nat.le_succ _)))
    have T2 := Lib.hid (tal_keep T1.out c2)
    have G2 : Hid (w.heap.size + 1 < y2.heap.size) := Lib.hid (Nat.lt_of_lt_of_le G1.out c2.size)
    clear s2 c2
    go_wp2_with fail
    go_at_call 32
    refine (HMM.out 0 (Nat.zero_le _) 1 (by decide) (by decide) _ B2.out S2.out).mono ?_
    rintro e y3 ⟨rfl, s3, c3⟩
    have S3 := Lib.hid s3
    have B3 := Lib.hid (B2.out.trans (c3.mono (Nat.le_succ _)))
    have T3 := Lib.hid (tal_keep T2.out c3)
    have G3 : Hid (w.heap.size + 1 < y3.heap.size) := Lib.hid (Nat.lt_of_lt_of_le G2.out c3.size)
    clear s3 c3
    obtain ⟨⟨t0, t1, t2⟩, t3, t4, t5⟩ := T3.out
    have g1 : w.heap.size < y3.heap.size := by have := G3.out; omega
    have g2 : w.heap.size ≤ y3.heap.size := by omega
    go_wp2_with fail
    go_at_call 33
    refine (HDN.out (0) true _ y3 S3.out B3.out G3.out).mono ?_
    rintro e y4 ⟨rfl, m4, rfl⟩
    go_wp2
    refine bodyPost_ret (v := .tuple #[.agg #[.int .i64 0, .int .i64 0, .bool false], .int .i64 2]) (by simp [results, Try.results20, go_sem, *]) rfl ⟨by rw [HZ.out], ?_⟩
    first
      | exact below_drewN (bal (bset (bset (bset B3.out _ _ _ (by omega)) _ _ _ (by omega)) _ _ _ (by omega)) _) _
      | exact bset (bset (bset (below_drewN (bal B3.out _) _) _ _ _ (by omega)) _ _ _ (by omega)) _ _ _ (by omega)
end Go.Proofs.Ytjpinnoolnhphaa
