/- The program's Validate. -/
import Derived.Test.YtpehbfghajlgmaaDgT
import Derived.Test.YtpehbfghajlgmaaBgY
namespace Go.Proofs.Ytpehbfghajlgmaa
open Go.RowKit
set_option linter.unusedVariables false
set_option linter.unusedSimpArgs false
theorem dupB_symm (x y : Bg) : dupB x y = dupB y x := by
  unfold dupB
  rw [Bool.or_comm, show (x.r == y.r) = (y.r == x.r) from Bool.eq_iff_iff.2 (by rw [beq_iff_eq, beq_iff_eq]; exact eq_comm)]
theorem dup_pw {L : List Bg} : ¬ DupTo L L.length ↔ L.Pairwise ApartB := by
  rw [List.pairwise_iff_getElem]
  constructor
  · intro h i j hi hj hij
    unfold ApartB
    cases hd : dupB L[j] L[i] with
    | false => rfl
    | true => exact absurd ⟨j, i, hij, hj, by simpa [List.getD, hi, hj] using hd⟩ h
  · rintro h ⟨i, k, hk, hi, hd⟩
    have := h k i (by omega) hi hk
    unfold ApartB at this
    simp [List.getD, hi, show k < L.length by omega] at hd
    rw [this] at hd
    cases hd
theorem dup_perm {L M : List Bg} (h : M.Perm L) : DupTo L L.length ↔ DupTo M M.length := by
  have h1 := h.pairwise_iff (R := ApartB) (fun {x y} hxy => by unfold ApartB at *; rw [dupB_symm]; exact hxy)
  rw [← dup_pw, ← dup_pw] at h1
  constructor
  · intro h2
    exact Classical.byContradiction fun h3 => (h1.1 h3) h2
  · intro h2
    exact Classical.byContradiction fun h3 => (h1.2 h3) h2
theorem adj_dup {L M : List Bg} (hp : M.Perm L) (hs : AscT M) (hv : ∀ x ∈ L, x.s = 0 ∨ x.k < x.s) : AdjTo M L.length ↔ DupTo L L.length := by
  rw [dup_perm hp, ← hp.length_eq]
  constructor
  · rintro ⟨i, hi, h1, h2⟩
    refine ⟨i + 1, i, by omega, hi, ?_⟩
    unfold dupB
    rw [h2, Bool.true_or, Bool.and_true, beq_iff_eq]
    exact h1.symm
  · rintro ⟨i, k, hk, hi, hd⟩
    have hle : ∀ a b, a ≤ b → b < M.length → (M.getD a Bg.z).r < (M.getD b Bg.z).r ∨ ((M.getD a Bg.z).r = (M.getD b Bg.z).r ∧ (M.getD a Bg.z).k ≤ (M.getD b Bg.z).k) := by
      intro a b hab hb
      by_cases he : a = b
      · subst he; exact .inr ⟨rfl, Int.le_refl _⟩
      · have := hs a b (by omega) hb
        unfold ltT at this
        simp only [Bool.or_eq_false_iff, Bool.and_eq_false_iff, decide_eq_false_iff_not, beq_eq_false_iff_ne] at this
        omega
    have hkm : M.getD k Bg.z ∈ L := hp.mem_iff.1 (getD_mem (by omega))
    have hok := hv _ hkm
    unfold dupB hldB at hd
    simp only [Bool.and_eq_true, Bool.or_eq_true, beq_iff_eq, decide_eq_true_eq] at hd
    have h1 := hle k i (by omega) hi
    have h2 := hle k (k + 1) (by omega) (by omega)
    have h3 := hle (k + 1) i (by omega) hi
    refine ⟨k, by omega, by omega, ?_⟩
    unfold hldB
    simp only [Bool.and_eq_true, Bool.or_eq_true, decide_eq_true_eq]
    omega
/-- What stands in errB beside the binding before, by follows. -/
theorem fol_err {x y : Bg} (hv : y.s = 0 ∨ y.k < y.s) : (lessK x.n y.n = true ∨ (y.n = x.n ∧ (x.k ≤ y.k ∨ y.s = 0 ∨ x.k < y.s))) ↔ folB x y = false := by
  unfold folB
  by_cases h : y.n = x.n
  · rw [if_pos h, h, lessK_irr]
    simp only [Bool.and_eq_false_iff, decide_eq_false_iff_not, Bool.not_eq_false', beq_iff_eq]
    constructor
    · rintro (h1 | ⟨-, h1⟩)
      · cases h1
      · omega
    · intro h1
      exact .inr ⟨by first | rfl | trivial, by omega⟩
  · rw [if_neg h]
    constructor
    · rintro (h1 | ⟨h1, -⟩)
      · exact lessK_asym h1
      · exact absurd h1 h
    · intro h1
      rcases lessK_tri x.n y.n with h2 | h2 | h2
      · exact .inl h2
      · exact absurd h2.symm h
      · rw [h1] at h2; cases h2
theorem err_val {L : List Bg} {i : Nat} (h : errB L i = 0) : (L.getD i Bg.z).s = 0 ∨ (L.getD i Bg.z).k < (L.getD i Bg.z).s := by
  unfold errB at h
  split at h
  · cases h
  · split at h
    · cases h
    · split at h
      · cases h
      · rename_i h1 h2 h3
        omega
set_option maxRecDepth 100000 in
set_option maxHeartbeats 4000000 in
theorem pvalb_any (L : List Bg) (v : Value) (w : World) (hv : RdBg L v w) (hL : L.length ≤ 1000000) :
    Calls Try.prog 20 #[v] w fun e w' => e = .returned (.int .i64 (valB L)) ∧ Below w.heap.size w w' := by
  have HTW := Lib.hid (fun (w1 : World) (hb : Below w.heap.size w w1) => two_any L v w1 (hv.below hb) hL)
  obtain ⟨a, cap, rfl⟩ := hv.shape
  have HV := Lib.hid hv
  clear hv
  go_enter Try.func20, Try.ntmps20
  go_wp2
  go_loopw [3, 4, 7] (fun _ _ i wr => ∃ q : Nat, q ≤ L.length ∧ i = .int .i64 (q : Int) ∧ Hid (∀ x, x < q → errB L x = 0) ∧ Hid (Below w.heap.size w wr)) (fun _ _ i _ => L.length - (intOf i).toNat)
  case atStart => exact ⟨0, by omega, rfl, Lib.hid (fun x hx => by omega), Lib.hid (Below.refl _ _)⟩
  case round =>
    obtain ⟨q, hq, rfl, HN, HB⟩ := hrel
    by_cases hlt : q < L.length
    · clear HTW
      have hqi : (q : Int) < (L.length : Int) := by omega
      obtain ⟨b, off, rfl, hbl, c0, c1, c2, c3⟩ := (HV.out.below HB.out).at_ hlt
      have hok := (HV.out.1.at_ q)
      have HBAD := Lib.hid (fun (he : errB L q ≠ 0) => valB_bad HN.out hlt he)
      have HNX : Hid (errB L q = 0 → ∀ x, x < q + 1 → errB L x = 0) := Lib.hid (fun h x hx => by
        rcases Nat.lt_or_ge x q with h' | h'
        · exact HN.out x h'
        · obtain rfl : x = q := by omega
          exact h)
      have HE : Hid (errB L q = if nameB (byt (L.getD q Bg.z).n) = false then 6 else if (L.getD q Bg.z).r < 1 ∨ (L.getD q Bg.z).k < 1 ∨ (L.getD q Bg.z).s < 0 then 5 else if (L.getD q Bg.z).s ≠ 0 ∧ (L.getD q Bg.z).s ≤ (L.getD q Bg.z).k then 19 else if 0 < q ∧ folB (L.getD q Bg.z) (L.getD (q - 1) Bg.z) = false then 19 else 0) := Lib.hid (by
        cases q with
        | zero => unfold errB; simp
        | succ j =>
          have h1 := fol_err (x := L.getD (j + 1) Bg.z) (err_val (HN.out j (Nat.lt_succ_self _)))
          unfold errB
          simp only [Nat.add_sub_cancel, Nat.succ_pos, true_and, h1])
      obtain ⟨x, hx⟩ : ∃ x, L.getD q Bg.z = x := ⟨_, rfl⟩
      rw [hx] at c0 c1 c2 c3 hok HE
      clear hx
      obtain ⟨m, r, k, s⟩ := x
      have hms : m.size ≤ maxLen := hok.1
      simp only at c0 c1 c2 c3
      have HE : Hid (errB L q = if nameB (byt m) = false then 6 else if r < 1 ∨ k < 1 ∨ s < 0 then 5 else if s ≠ 0 ∧ s ≤ k then 19 else if 0 < q ∧ folB ⟨m, r, k, s⟩ (L.getD (q - 1) Bg.z) = false then 19 else 0) := HE
      have hnm := fun w => isName_any m w hms
      have HBOX := Lib.hid (fun (w3 : World) (h3 : Below (wr.alloc (.cells #[.string m, .int .i64 r, .int .i64 k, .int .i64 s] 49)).heap.size (wr.alloc (.cells #[.string m, .int .i64 r, .int .i64 k, .int .i64 s] 49)) w3) =>
        show w3.cell? ⟨wr.heap.size, 0, none⟩ = some (.string m) ∧ w3.cell? ⟨wr.heap.size, 1, none⟩ = some (.int .i64 r) ∧ w3.cell? ⟨wr.heap.size, 2, none⟩ = some (.int .i64 k) ∧ w3.cell? ⟨wr.heap.size, 3, none⟩ = some (.int .i64 s) from
        ⟨((bcell h3).1 wr.heap.size 0 (by simp)).trans (by go_simp), ((bcell h3).1 wr.heap.size 1 (by simp)).trans (by go_simp), ((bcell h3).1 wr.heap.size 2 (by simp)).trans (by go_simp), ((bcell h3).1 wr.heap.size 3 (by simp)).trans (by go_simp)⟩)
      have HGB := Lib.hid (fun (w3 : World) (h3 : Below (wr.alloc (.cells #[.string m, .int .i64 r, .int .i64 k, .int .i64 s] 49)).heap.size (wr.alloc (.cells #[.string m, .int .i64 r, .int .i64 k, .int .i64 s] 49)) w3) => bgo (bal HB.out _) h3)
      have HRR := Lib.hid (fun (w3 : World) (h3 : Below (wr.alloc (.cells #[.string m, .int .i64 r, .int .i64 k, .int .i64 s] 49)).heap.size (wr.alloc (.cells #[.string m, .int .i64 r, .int .i64 k, .int .i64 s] 49)) w3) => HV.out.below (bgo (bal HB.out _) h3))
      have HO := Lib.hid (fun w => isopen_any m r k s w)
      clear hok hms
      cases hn : nameB (byt m) with
      | false =>
        rw [hn] at hnm HE
        have e5 : errB L q = 6 := by rw [HE.out, if_pos rfl]
        have HF := Lib.hid (show valB L = 6 by rw [HBAD.out (by rw [e5]; decide), e5])
        clear e5 HE HBAD HNX hn HO HBOX HGB HRR
        go_wp2_with (go_at_call 22; refine (hnm _).mono ?_; rintro e w2 ⟨rfl, rfl⟩)
        go_ret
        exact ⟨by rw [HF.out]; rfl, bal HB.out _⟩
      | true =>
        rw [hn] at hnm HE
        have HE1 := Lib.hid (HE.out.trans (if_neg (by decide)))
        clear HE hn
        by_cases h1 : r < 1 ∨ k < 1 ∨ s < 0
        · have e5 : errB L q = 5 := by rw [HE1.out, if_pos h1]
          have HF := Lib.hid (show valB L = 5 by rw [HBAD.out (by rw [e5]; decide), e5])
          clear e5 HE1 HBAD HNX HO HBOX HGB HRR
          by_cases g1 : r < 1
          · clear h1
            go_wp2_with (go_at_call 22; refine (hnm _).mono ?_; rintro e w2 ⟨rfl, rfl⟩)
            go_ret
            exact ⟨by rw [HF.out]; rfl, bal HB.out _⟩
          · by_cases g2 : k < 1
            · clear h1
              go_wp2_with (go_at_call 22; refine (hnm _).mono ?_; rintro e w2 ⟨rfl, rfl⟩)
              go_ret
              exact ⟨by rw [HF.out]; rfl, bal HB.out _⟩
            · have g3 : s < 0 := by omega
              clear h1
              go_wp2_with (go_at_call 22; refine (hnm _).mono ?_; rintro e w2 ⟨rfl, rfl⟩)
              go_ret
              exact ⟨by rw [HF.out]; rfl, bal HB.out _⟩
        · have g1 : ¬ r < 1 := fun h => h1 (.inl h)
          have g2 : ¬ k < 1 := fun h => h1 (.inr (.inl h))
          have g3 : ¬ s < 0 := fun h => h1 (.inr (.inr h))
          have HE2 := Lib.hid (HE1.out.trans (if_neg h1))
          clear HE1 h1
          by_cases h2 : s ≠ 0 ∧ s ≤ k
          · have e5 : errB L q = 19 := by rw [HE2.out, if_pos h2]
            have HF := Lib.hid (show valB L = 19 by rw [HBAD.out (by rw [e5]; decide), e5])
            obtain ⟨g4, g5⟩ := h2
            have g6 : (s == 0) = false := beq_eq_false_iff_ne.2 g4
            rw [g6] at HO
            clear e5 HE2 HBAD HNX g4 g6
            go_wp2_with (first
              | (go_at_call 22; refine (hnm _).mono ?_; rintro e w2 ⟨rfl, rfl⟩)
              | (go_at_call 36; refine (HO.out _).mono ?_; rintro e w3 ⟨rfl, hb⟩; obtain ⟨e0, e1, e2, e3⟩ := HBOX.out w3 hb; have HB3 := Lib.hid (HGB.out w3 hb); have HR3 := Lib.hid (HRR.out w3 hb); clear hb))
            go_ret
            exact ⟨by rw [HF.out]; rfl, HB3.out⟩
          · have HE3 := Lib.hid (HE2.out.trans (if_neg h2))
            have hall : ((s == 0) = true) ∨ ((s == 0) = false ∧ ¬ s ≤ k) := by
              by_cases h0 : s = 0
              · exact .inl (by simp [h0])
              · exact .inr ⟨by simp [h0], fun h => h2 ⟨h0, h⟩⟩
            clear HE2 h2
            cases q with
            | zero =>
              have HF := Lib.hid (HNX.out (HE3.out.trans (if_neg (by omega))))
              clear HE3 HBAD HNX
              rcases hall with g6 | ⟨g6, g5⟩
              all_goals
                rw [g6] at HO
                clear g6
                simp only [Nat.zero_mul, Nat.add_zero] at c0 c1 c2 c3
                go_wp2_with (first
                  | (go_at_call 22; refine (hnm _).mono ?_; rintro e w2 ⟨rfl, rfl⟩)
                  | (go_at_call 36; refine (HO.out _).mono ?_; rintro e w3 ⟨rfl, hb⟩; obtain ⟨e0, e1, e2, e3⟩ := HBOX.out w3 hb; have HB3 := Lib.hid (HGB.out w3 hb); have HR3 := Lib.hid (HRR.out w3 hb); clear hb))
                go_quiet (fail)
                go_wp2
                go_roundw
                case rel => exact ⟨1, by omega, by go_num, HF, Lib.hid (below_drewN HB3.out _)⟩
                case measure => simp [intOf]; omega
            | succ j =>
              rw [show j + 1 - 1 = j from rfl] at HE3
              have HFO := Lib.hid (fun w => follows_any ⟨m, r, k, s⟩ (L.getD j Bg.z) w)
              have HAT : Hid (∀ w2, RdBg L (.slice (some ⟨b, off, none⟩) L.length cap) w2 → At4Bg (L.getD j Bg.z) b (off + j * 4) w2) := Lib.hid (fun w2 h2 => by
                obtain ⟨b', off', hbo, -, d0, d1, d2, d3⟩ := h2.at_ (j := j) (by omega)
                simp only [Option.some.injEq, Addr.mk.injEq, and_true] at hbo
                obtain ⟨rfl, rfl⟩ := hbo
                exact ⟨d0, d1, d2, d3⟩)
              obtain ⟨y, hy⟩ : ∃ y, L.getD j Bg.z = y := ⟨_, rfl⟩
              rw [hy] at HE3 HFO HAT
              clear hy
              obtain ⟨f, hf⟩ : ∃ f, folB ⟨m, r, k, s⟩ y = f := ⟨_, rfl⟩
              rw [hf] at HE3 HFO
              clear hf
              obtain ⟨yn, yr, yk, ys⟩ := y
              have HAT2 : Hid (∀ w2, RdBg L (.slice (some ⟨b, off, none⟩) L.length cap) w2 → w2.cell? ⟨b, off + j * 4, none⟩ = some (.string yn) ∧ w2.cell? ⟨b, off + j * 4 + 1, none⟩ = some (.int .i64 yr) ∧ w2.cell? ⟨b, off + j * 4 + 2, none⟩ = some (.int .i64 yk) ∧ w2.cell? ⟨b, off + j * 4 + 3, none⟩ = some (.int .i64 ys)) := HAT
              have HFO2 : Hid (∀ w, Calls Try.prog 37 #[.agg #[.string m, .int .i64 r, .int .i64 k, .int .i64 s], .agg #[.string yn, .int .i64 yr, .int .i64 yk, .int .i64 ys]] w fun e w' => e = .returned (.bool f) ∧ Below w.heap.size w w') := HFO
              clear HAT HFO
              have hj1 : IntKind.i64.wrap ((j : Int) + 1 - 1) = (j : Int) := by rw [IntKind.wrap_i64]; omega
              have hj2 : (0 : Int) < (j : Int) + 1 := by omega
              have hj3 : (j : Int) < (L.length : Int) := by omega
              have hj4 : wrap64 ((j : Int) + 1 - 1) = (j : Int) := by unfold wrap64; omega
              have hj5 : IntKind.i64.wrap (j : Int) = (j : Int) := by rw [IntKind.wrap_i64]; omega
              cases f with
              | false =>
                have e5 : errB L (j + 1) = 19 := by rw [HE3.out, if_pos ⟨by omega, rfl⟩]
                have HF := Lib.hid (show valB L = 19 by rw [HBAD.out (by rw [e5]; decide), e5])
                clear e5 HE3 HBAD HNX
                rcases hall with g6 | ⟨g6, g5⟩
                all_goals
                  rw [g6] at HO
                  clear g6
                  go_wp2_with (first
                    | (go_at_call 22; refine (hnm _).mono ?_; rintro e w2 ⟨rfl, rfl⟩)
                    | (go_at_call 36; refine (HO.out _).mono ?_; rintro e w3 ⟨rfl, hb⟩; obtain ⟨e0, e1, e2, e3⟩ := HBOX.out w3 hb; have HB3 := Lib.hid (HGB.out w3 hb); have HR3 := Lib.hid (HRR.out w3 hb); clear hb))
                  obtain ⟨d0, d1, d2, d3⟩ := HAT2.out w3 HR3.out
                  have HSB : Hid (∀ w1 w2 : World, Below w3.heap.size w3 w1 → Below w1.heap.size w1 w2 → Below w3.heap.size w3 w2) := Lib.hid (fun _ _ h k => bgo h k)
                  have hBd : Below w3.heap.size w3 w3.drew := (Below.refl w3.heap.size w3).drew
                  have hbx : wr.heap.size < w3.heap.size := World.block_lt_of_cell? w3 _ e0
                  have HA1 : Hid (∀ w2, Below w3.heap.size w3 w2 → w2.cell? ⟨wr.heap.size, 0, none⟩ = some (.string m) ∧ w2.cell? ⟨wr.heap.size, 1, none⟩ = some (.int .i64 r) ∧ w2.cell? ⟨wr.heap.size, 2, none⟩ = some (.int .i64 k) ∧ w2.cell? ⟨wr.heap.size, 3, none⟩ = some (.int .i64 s)) := Lib.hid (fun w2 h => ⟨((bcell h).1 wr.heap.size 0 hbx).trans e0, ((bcell h).1 wr.heap.size 1 hbx).trans e1, ((bcell h).1 wr.heap.size 2 hbx).trans e2, ((bcell h).1 wr.heap.size 3 hbx).trans e3⟩)
                  have HA2 := Lib.hid (fun w2 (h : Below w3.heap.size w3 w2) => HAT2.out w2 (HR3.out.below h))
                  go_region_held3 (fun w' => Below w3.heap.size w3 w' ∧ (w'.cell? ⟨b, off + j * 4, none⟩ = some (.string yn) ∧ w'.cell? ⟨b, off + j * 4 + 1, none⟩ = some (.int .i64 yr) ∧ w'.cell? ⟨b, off + j * 4 + 2, none⟩ = some (.int .i64 yk) ∧ w'.cell? ⟨b, off + j * 4 + 3, none⟩ = some (.int .i64 ys)) ∧ w'.cell? ⟨wr.heap.size, 0, none⟩ = some (.string m) ∧ w'.cell? ⟨wr.heap.size, 1, none⟩ = some (.int .i64 r) ∧ w'.cell? ⟨wr.heap.size, 2, none⟩ = some (.int .i64 k) ∧ w'.cell? ⟨wr.heap.size, 3, none⟩ = some (.int .i64 s)) (go_keep)
                    (first | (go_at_call 37; refine (HFO2.out _).mono ?_; rintro e w' ⟨rfl, hb⟩; have S1 := HSB.out _ w' (by assumption) hb; obtain ⟨d0, d1, d2, d3⟩ := HA2.out w' S1; obtain ⟨e0, e1, e2, e3⟩ := HA1.out w' S1; clear hb))
                  all_goals
                    go_wp2
                    go_ret
                    exact ⟨by rw [HF.out]; rfl, bgo HB3.out S1⟩
              | true =>
                have HF := Lib.hid (HNX.out (HE3.out.trans (if_neg (fun h => by cases h.2))))
                clear HE3 HBAD HNX
                rcases hall with g6 | ⟨g6, g5⟩
                all_goals
                  rw [g6] at HO
                  clear g6
                  go_wp2_with (first
                    | (go_at_call 22; refine (hnm _).mono ?_; rintro e w2 ⟨rfl, rfl⟩)
                    | (go_at_call 36; refine (HO.out _).mono ?_; rintro e w3 ⟨rfl, hb⟩; obtain ⟨e0, e1, e2, e3⟩ := HBOX.out w3 hb; have HB3 := Lib.hid (HGB.out w3 hb); have HR3 := Lib.hid (HRR.out w3 hb); clear hb))
                  obtain ⟨d0, d1, d2, d3⟩ := HAT2.out w3 HR3.out
                  have HSB : Hid (∀ w1 w2 : World, Below w3.heap.size w3 w1 → Below w1.heap.size w1 w2 → Below w3.heap.size w3 w2) := Lib.hid (fun _ _ h k => bgo h k)
                  have hBd : Below w3.heap.size w3 w3.drew := (Below.refl w3.heap.size w3).drew
                  have hbx : wr.heap.size < w3.heap.size := World.block_lt_of_cell? w3 _ e0
                  have HA1 : Hid (∀ w2, Below w3.heap.size w3 w2 → w2.cell? ⟨wr.heap.size, 0, none⟩ = some (.string m) ∧ w2.cell? ⟨wr.heap.size, 1, none⟩ = some (.int .i64 r) ∧ w2.cell? ⟨wr.heap.size, 2, none⟩ = some (.int .i64 k) ∧ w2.cell? ⟨wr.heap.size, 3, none⟩ = some (.int .i64 s)) := Lib.hid (fun w2 h => ⟨((bcell h).1 wr.heap.size 0 hbx).trans e0, ((bcell h).1 wr.heap.size 1 hbx).trans e1, ((bcell h).1 wr.heap.size 2 hbx).trans e2, ((bcell h).1 wr.heap.size 3 hbx).trans e3⟩)
                  have HA2 := Lib.hid (fun w2 (h : Below w3.heap.size w3 w2) => HAT2.out w2 (HR3.out.below h))
                  go_region_held3 (fun w' => Below w3.heap.size w3 w' ∧ (w'.cell? ⟨b, off + j * 4, none⟩ = some (.string yn) ∧ w'.cell? ⟨b, off + j * 4 + 1, none⟩ = some (.int .i64 yr) ∧ w'.cell? ⟨b, off + j * 4 + 2, none⟩ = some (.int .i64 yk) ∧ w'.cell? ⟨b, off + j * 4 + 3, none⟩ = some (.int .i64 ys)) ∧ w'.cell? ⟨wr.heap.size, 0, none⟩ = some (.string m) ∧ w'.cell? ⟨wr.heap.size, 1, none⟩ = some (.int .i64 r) ∧ w'.cell? ⟨wr.heap.size, 2, none⟩ = some (.int .i64 k) ∧ w'.cell? ⟨wr.heap.size, 3, none⟩ = some (.int .i64 s)) (go_keep)
                    (first | (go_at_call 37; refine (HFO2.out _).mono ?_; rintro e w' ⟨rfl, hb⟩; have S1 := HSB.out _ w' (by assumption) hb; obtain ⟨d0, d1, d2, d3⟩ := HA2.out w' S1; obtain ⟨e0, e1, e2, e3⟩ := HA1.out w' S1; clear hb))
                  all_goals
                    go_wp2
                    go_roundw
                    case rel => exact ⟨j + 1 + 1, by omega, by go_num, HF, Lib.hid (bgo HB3.out S1)⟩
                    case measure => simp [intOf]; omega
    · obtain rfl : q = L.length := by omega
      have HALL := Lib.hid HN.out
      have HFN : Hid (∀ (M : List Bg) (b : Bool), M.Perm L → AscT M → (b = true ↔ AdjTo M L.length) → valB L = if b = true then 9 else 0) := Lib.hid (fun M b hp hs hb => by
        have hvv : ∀ x ∈ L, x.s = 0 ∨ x.k < x.s := fun x hx => by
          obtain ⟨i, hi, rfl⟩ := List.mem_iff_getElem.1 hx
          have := err_val (HALL.out i hi)
          simpa [List.getD, hi] using this
        have h1 := hb.trans (adj_dup hp hs hvv)
        cases b with
        | true => rw [if_pos rfl]; exact valB_dup HALL.out (h1.1 rfl)
        | false => rw [if_neg (by decide)]; exact valB_ok HALL.out (fun h => by have := h1.2 h; cases this))
      have HT2 := Lib.hid (HTW.out _ HB.out)
      clear HTW HN HALL
      go_wp2_with (go_at_call 38; refine HT2.out.mono ?_; rintro e w2 ⟨M, f, hp, hs, hf, rfl, hb⟩; have HB2 := Lib.hid (bgo HB.out hb); have HVL := Lib.hid (HFN.out M f hp hs hf); clear hp hs hf hb; cases f)
      · go_ret
        exact ⟨by rw [HVL.out]; rfl, HB2.out⟩
      · go_ret
        exact ⟨by rw [HVL.out]; rfl, HB2.out⟩
end Go.Proofs.Ytpehbfghajlgmaa
