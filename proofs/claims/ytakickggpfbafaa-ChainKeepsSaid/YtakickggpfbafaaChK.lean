/- The contract of sketchstorelaw17.made. -/
import Derived.Test.YtakickggpfbafaaClI
import Derived.Laws.BitsAllLaws
namespace Go.Proofs.Ytakickggpfbafaa
open Go.RowKit
set_option linter.unusedVariables false
set_option linter.unusedSimpArgs false
theorem mask1k (n : Int) : bits .and .i64 n 1 = n % 2 := i64_mask 1 (by decide) n
theorem mask2k (n : Int) : bits .and .i64 n 3 = n % 4 := i64_mask 2 (by decide) n
theorem mask3k (n : Int) : bits .and .i64 n 7 = n % 8 := i64_mask 3 (by decide) n
theorem mask4k (n : Int) : bits .and .i64 n 15 = n % 16 := i64_mask 4 (by decide) n
theorem mask5k (n : Int) : bits .and .i64 n 31 = n % 32 := i64_mask 5 (by decide) n
theorem OwnVs.one2 {x : Vs} (hx : x.ok) (w : World) (o o' : Obj) : OwnVs w.heap.size [x] (.slice (some ⟨w.heap.size + 1 + 1, 0, none⟩) 1 1) (((w.alloc o).alloc o').alloc (.cells #[.int .i64 x.n, .int .i64 x.r, .int .i64 x.k, x.s] 33)) := by
  have h := OwnVs.one hx ((w.alloc o).alloc o')
  have e : ((w.alloc o).alloc o').heap.size = w.heap.size + 1 + 1 := by simp
  rw [e] at h
  exact h.mono (by omega)
/-- What made's versions are like. -/
def BdV (L : List Vn) : Prop := ∀ x ∈ L, (-2 ≤ x.n ∧ x.n ≤ 100) ∧ (-2 ≤ x.r ∧ x.r ≤ 100) ∧ (-1 ≤ x.k ∧ x.k ≤ 31) ∧ x.p.length = 1
theorem BdV.nil : BdV [] := fun _ h => by cases h
theorem BdV.snoc {L : List Vn} (h : BdV L) {n r k y : Int} (h1 : -2 ≤ n ∧ n ≤ 100) (h2 : -2 ≤ r ∧ r ≤ 100) (h3 : -1 ≤ k ∧ k ≤ 31) : BdV (L ++ [⟨n, r, k, [y]⟩]) := fun x hx => by
  rcases List.mem_append.1 hx with h' | h'
  · exact h x h'
  · rw [List.mem_singleton] at h'
    subst h'
    exact ⟨h1, h2, h3, rfl⟩
theorem vs_okB {n r k : Int} {b : Nat} (h1 : -2 ≤ n ∧ n ≤ 100) (h2 : -2 ≤ r ∧ r ≤ 100) (h3 : -1 ≤ k ∧ k ≤ 31) : Vs.ok ⟨n, r, k, .slice (some ⟨b, 0, none⟩) 1 1⟩ :=
  ⟨by show -9223372036854775808 ≤ n ∧ n ≤ 9223372036854775807; omega, by show -9223372036854775808 ≤ r ∧ r ≤ 9223372036854775807; omega, by show -9223372036854775808 ≤ k ∧ k ≤ 9223372036854775807; omega, _, _, _, rfl⟩
/-- The loop's state. -/
def MkV (q : Nat) (w wr : World) (o : Value) : Prop := ∃ M L, M.length = q ∧ OwnVs w.heap.size M o wr ∧ VmAt w.heap.size M L wr ∧ BdV L ∧ Below w.heap.size w wr
set_option maxRecDepth 100000 in
set_option maxHeartbeats 4000000 in
theorem made17_any (Z : List Int) (v : Value) (w : World) (hv : RdI Z v w) :
    Calls Try.prog 8 #[v] w fun e w' => ∃ M L u, L.length ≤ 6 ∧ e = .returned u ∧ OwnVs w.heap.size M u w' ∧ VmAt w.heap.size M L w' ∧ BdV L ∧ Below w.heap.size w w' := by
  obtain ⟨a, cap, rfl⟩ := hv.shape
  have HV := Lib.hid hv
  have hZ : Z.length ≤ 9223372036854775807 := by
    obtain ⟨_, _, _, _, h1, h2, _⟩ := hv
    unfold maxLen at h2
    omega
  clear hv
  go_enter Try.func8, Try.ntmps8
  go_wp2
  go_loopw [3, 4, 5, 6, 7] (fun o t i _ _ wr => ∃ (q : Nat) (s : Int), q ≤ Z.length ∧ q ≤ 6 ∧ i = .int .i64 (q : Int) ∧ t = .int .i64 s ∧ 1 ≤ s ∧ s ≤ 7 * q + 1 ∧ Hid (MkV q w wr o)) (fun _ _ i _ _ _ => 6 - (intOf i).toNat)
  case atStart => exact ⟨0, 1, by omega, by omega, rfl, rfl, by decide, by decide, Lib.hid ⟨[], [], rfl, OwnVs.empty _ _, trivial, BdV.nil, Below.refl _ _⟩⟩
  case round =>
    obtain ⟨q, s, hq, hq6, rfl, rfl, hs0, hs1, HI⟩ := hrel
    obtain ⟨M, L, hM, ho, hm, hbd, hb⟩ := HI.out
    have HM := Lib.hid hM
    clear hM
    obtain ⟨a5, c5, rfl⟩ := ho.rd.shape
    have HO := Lib.hid ho
    have HB := Lib.hid hb
    have HMA := Lib.hid hm
    have HBD := Lib.hid hbd
    clear HI ho hb hm hbd
    by_cases hlt : q < Z.length
    · by_cases hlt6 : q < 6
      · obtain ⟨_, a6, cap6, he6, _, _, hc6⟩ := HV.out.below HB.out
        simp only [Value.slice.injEq, true_and] at he6
        obtain ⟨rfl, rfl⟩ := he6
        obtain ⟨b6, off6, rfl, hb6, hcell6⟩ := hc6 (by omega)
        have hcc6 := hcell6 q hlt
        have hz := HV.out.at_ q
        clear hcell6 hc6
        generalize Z.getD q 0 = z at *
        have m1 := mask2k z
        have m2 := mask5k (z / 4)
        have m3 := mask3k z
        have m4 := mask2k (z / 16)
        have m5 := mask1k (z / 64)
        have m6 := mask5k (z / 128)
        have m7 := mask4k (z / 4096)
        have r1 : 0 ≤ z % 4 ∧ z % 4 ≤ 3 := by omega
        have r2 : 0 ≤ z / 4 % 32 ∧ z / 4 % 32 ≤ 31 := by omega
        have r3 : 0 ≤ z % 8 ∧ z % 8 ≤ 7 := by omega
        have r4 : 0 ≤ z / 16 % 4 ∧ z / 16 % 4 ≤ 3 := by omega
        have r7 : 0 ≤ z / 4096 % 16 ∧ z / 4096 % 16 ≤ 15 := by omega
        have hqz : (q : Int) < (Z.length : Int) := by omega
        generalize z % 4 = x1 at *
        generalize z / 4 % 32 = x2 at *
        generalize z % 8 = x3 at *
        generalize z / 16 % 4 = x4 at *
        generalize z / 4096 % 16 = x7 at *
        obtain ⟨x5, hx5⟩ : ∃ x, z / 64 % 2 = x := ⟨_, rfl⟩
        obtain ⟨x6, hx6⟩ : ∃ x, z / 128 % 32 = x := ⟨_, rfl⟩
        rw [hx5] at m5
        rw [hx6] at m6
        clear hx5 hx6
        have HLM := Lib.hid (show M.length ≤ 6 by have := HM.out; omega)
        by_cases hqe : q + 1 = Z.length
        · have hqe2 : (q : Int) + 1 = (Z.length : Int) := by omega
          by_cases h5 : x5 = 1
          · subst h5
            by_cases g0 : x6 = 0
            · subst g0
              have q1 : -2 ≤ x7 - 2 ∧ x7 - 2 ≤ 100 := by omega
              have q2 : -2 ≤ (0 : Int) ∧ (0 : Int) ≤ 100 := by omega
              have q3 : -1 ≤ x2 ∧ x2 ≤ 31 := by omega
              have HX : Hid (Vs.ok ⟨x7 - 2, (0 : Int), x2, .slice (some ⟨wr.heap.size, 0, none⟩) 1 1⟩) := Lib.hid (vs_okB q1 q2 q3)
              have HBX := Lib.hid (HBD.out.snoc (y := x3) q1 q2 q3)
              have HR3 := Lib.hid r3
              clear q1 q2 q3
              go_wp2_with (at_builtin; refine wp_appVsk rfl _ _ 22 rfl w.heap.size M [⟨x7 - 2, (0 : Int), x2, .slice (some ⟨wr.heap.size, 0, none⟩) 1 1⟩] _ _ rfl rfl (((HO.out.alloc _).alloc _).alloc _) (OwnVs.one2 HX.out wr _ _).rd.src ?_ ?_ ?_; (have := HB.out.size; simp; omega); (have := HLM.out; simp; omega); intro v3 w3 ho3 hb3 hk3; have O3 := Lib.hid ho3; have B3 := Lib.hid ((bal (bal (bal HB.out _) _) _).trans hb3); have M3 : Hid (VmAt w.heap.size (M ++ [⟨x7 - 2, (0 : Int), x2, .slice (some ⟨wr.heap.size, 0, none⟩) 1 1⟩]) (L ++ [⟨x7 - 2, (0 : Int), x2, [x3]⟩]) w3) := Lib.hid ((((HMA.out.below (b3 _ _ _)).snoc (m := ⟨x7 - 2, (0 : Int), x2, .slice (some ⟨wr.heap.size, 0, none⟩) 1 1⟩) (p := ⟨x7 - 2, (0 : Int), x2, [x3]⟩) ⟨rfl, rfl, rfl, (((OwnI.one (c := x3) ⟨by have := HR3.out; omega, by have := HR3.out; omega⟩ wr).alloc _).alloc _).mono HB.out.size⟩)).kpt (hk3 _ ne_int_vs)); clear ho3 hb3 hk3)
              go_roundw
              case rel => exact ⟨q + 1, s + x1 + 1 + x4, by omega, by omega, by go_num, by (try go_num), by omega, by omega, Lib.hid ⟨_, _, by simp [HM.out], O3.out, M3.out, HBX.out, B3.out⟩⟩
              case measure => simp [intOf]; omega
            · by_cases g1 : x6 = 1
              · subst g1
                have q1 : -2 ≤ s + x1 ∧ s + x1 ≤ 100 := by omega
                have q2 : -2 ≤ x7 - 2 ∧ x7 - 2 ≤ 100 := by omega
                have q3 : -1 ≤ x2 ∧ x2 ≤ 31 := by omega
                have HX : Hid (Vs.ok ⟨s + x1, x7 - 2, x2, .slice (some ⟨wr.heap.size, 0, none⟩) 1 1⟩) := Lib.hid (vs_okB q1 q2 q3)
                have HBX := Lib.hid (HBD.out.snoc (y := x3) q1 q2 q3)
                have HR3 := Lib.hid r3
                clear q1 q2 q3
                go_wp2_with (at_builtin; refine wp_appVsk rfl _ _ 22 rfl w.heap.size M [⟨s + x1, x7 - 2, x2, .slice (some ⟨wr.heap.size, 0, none⟩) 1 1⟩] _ _ rfl rfl (((HO.out.alloc _).alloc _).alloc _) (OwnVs.one2 HX.out wr _ _).rd.src ?_ ?_ ?_; (have := HB.out.size; simp; omega); (have := HLM.out; simp; omega); intro v3 w3 ho3 hb3 hk3; have O3 := Lib.hid ho3; have B3 := Lib.hid ((bal (bal (bal HB.out _) _) _).trans hb3); have M3 : Hid (VmAt w.heap.size (M ++ [⟨s + x1, x7 - 2, x2, .slice (some ⟨wr.heap.size, 0, none⟩) 1 1⟩]) (L ++ [⟨s + x1, x7 - 2, x2, [x3]⟩]) w3) := Lib.hid ((((HMA.out.below (b3 _ _ _)).snoc (m := ⟨s + x1, x7 - 2, x2, .slice (some ⟨wr.heap.size, 0, none⟩) 1 1⟩) (p := ⟨s + x1, x7 - 2, x2, [x3]⟩) ⟨rfl, rfl, rfl, (((OwnI.one (c := x3) ⟨by have := HR3.out; omega, by have := HR3.out; omega⟩ wr).alloc _).alloc _).mono HB.out.size⟩)).kpt (hk3 _ ne_int_vs)); clear ho3 hb3 hk3)
                go_roundw
                case rel => exact ⟨q + 1, s + x1 + 1 + x4, by omega, by omega, by go_num, by (try go_num), by omega, by omega, Lib.hid ⟨_, _, by simp [HM.out], O3.out, M3.out, HBX.out, B3.out⟩⟩
                case measure => simp [intOf]; omega
              · by_cases g2 : x6 = 2
                · subst g2
                  have q1 : -2 ≤ s + x1 ∧ s + x1 ≤ 100 := by omega
                  have q2 : -2 ≤ (0 : Int) ∧ (0 : Int) ≤ 100 := by omega
                  have q3 : -1 ≤ (-1 : Int) ∧ (-1 : Int) ≤ 31 := by omega
                  have HX : Hid (Vs.ok ⟨s + x1, (0 : Int), (-1 : Int), .slice (some ⟨wr.heap.size, 0, none⟩) 1 1⟩) := Lib.hid (vs_okB q1 q2 q3)
                  have HBX := Lib.hid (HBD.out.snoc (y := x3) q1 q2 q3)
                  have HR3 := Lib.hid r3
                  clear q1 q2 q3
                  go_wp2_with (at_builtin; refine wp_appVsk rfl _ _ 22 rfl w.heap.size M [⟨s + x1, (0 : Int), (-1 : Int), .slice (some ⟨wr.heap.size, 0, none⟩) 1 1⟩] _ _ rfl rfl (((HO.out.alloc _).alloc _).alloc _) (OwnVs.one2 HX.out wr _ _).rd.src ?_ ?_ ?_; (have := HB.out.size; simp; omega); (have := HLM.out; simp; omega); intro v3 w3 ho3 hb3 hk3; have O3 := Lib.hid ho3; have B3 := Lib.hid ((bal (bal (bal HB.out _) _) _).trans hb3); have M3 : Hid (VmAt w.heap.size (M ++ [⟨s + x1, (0 : Int), (-1 : Int), .slice (some ⟨wr.heap.size, 0, none⟩) 1 1⟩]) (L ++ [⟨s + x1, (0 : Int), (-1 : Int), [x3]⟩]) w3) := Lib.hid ((((HMA.out.below (b3 _ _ _)).snoc (m := ⟨s + x1, (0 : Int), (-1 : Int), .slice (some ⟨wr.heap.size, 0, none⟩) 1 1⟩) (p := ⟨s + x1, (0 : Int), (-1 : Int), [x3]⟩) ⟨rfl, rfl, rfl, (((OwnI.one (c := x3) ⟨by have := HR3.out; omega, by have := HR3.out; omega⟩ wr).alloc _).alloc _).mono HB.out.size⟩)).kpt (hk3 _ ne_int_vs)); clear ho3 hb3 hk3)
                  go_roundw
                  case rel => exact ⟨q + 1, s + x1 + 1 + x4, by omega, by omega, by go_num, by (try go_num), by omega, by omega, Lib.hid ⟨_, _, by simp [HM.out], O3.out, M3.out, HBX.out, B3.out⟩⟩
                  case measure => simp [intOf]; omega
                · have q1 : -2 ≤ s + x1 ∧ s + x1 ≤ 100 := by omega
                  have q2 : -2 ≤ (0 : Int) ∧ (0 : Int) ≤ 100 := by omega
                  have q3 : -1 ≤ x2 ∧ x2 ≤ 31 := by omega
                  have HX : Hid (Vs.ok ⟨s + x1, (0 : Int), x2, .slice (some ⟨wr.heap.size, 0, none⟩) 1 1⟩) := Lib.hid (vs_okB q1 q2 q3)
                  have HBX := Lib.hid (HBD.out.snoc (y := x3) q1 q2 q3)
                  have HR3 := Lib.hid r3
                  clear q1 q2 q3
                  go_wp2_with (at_builtin; refine wp_appVsk rfl _ _ 22 rfl w.heap.size M [⟨s + x1, (0 : Int), x2, .slice (some ⟨wr.heap.size, 0, none⟩) 1 1⟩] _ _ rfl rfl (((HO.out.alloc _).alloc _).alloc _) (OwnVs.one2 HX.out wr _ _).rd.src ?_ ?_ ?_; (have := HB.out.size; simp; omega); (have := HLM.out; simp; omega); intro v3 w3 ho3 hb3 hk3; have O3 := Lib.hid ho3; have B3 := Lib.hid ((bal (bal (bal HB.out _) _) _).trans hb3); have M3 : Hid (VmAt w.heap.size (M ++ [⟨s + x1, (0 : Int), x2, .slice (some ⟨wr.heap.size, 0, none⟩) 1 1⟩]) (L ++ [⟨s + x1, (0 : Int), x2, [x3]⟩]) w3) := Lib.hid ((((HMA.out.below (b3 _ _ _)).snoc (m := ⟨s + x1, (0 : Int), x2, .slice (some ⟨wr.heap.size, 0, none⟩) 1 1⟩) (p := ⟨s + x1, (0 : Int), x2, [x3]⟩) ⟨rfl, rfl, rfl, (((OwnI.one (c := x3) ⟨by have := HR3.out; omega, by have := HR3.out; omega⟩ wr).alloc _).alloc _).mono HB.out.size⟩)).kpt (hk3 _ ne_int_vs)); clear ho3 hb3 hk3)
                  go_roundw
                  case rel => exact ⟨q + 1, s + x1 + 1 + x4, by omega, by omega, by go_num, by (try go_num), by omega, by omega, Lib.hid ⟨_, _, by simp [HM.out], O3.out, M3.out, HBX.out, B3.out⟩⟩
                  case measure => simp [intOf]; omega
          · have h6 : (x5 == 1) = false := by simpa using h5
            by_cases g0 : x6 = 0
            · subst g0
              have q1 : -2 ≤ x7 - 2 ∧ x7 - 2 ≤ 100 := by omega
              have q2 : -2 ≤ s + x1 + 1 + x4 ∧ s + x1 + 1 + x4 ≤ 100 := by omega
              have q3 : -1 ≤ x2 ∧ x2 ≤ 31 := by omega
              have HX : Hid (Vs.ok ⟨x7 - 2, s + x1 + 1 + x4, x2, .slice (some ⟨wr.heap.size, 0, none⟩) 1 1⟩) := Lib.hid (vs_okB q1 q2 q3)
              have HBX := Lib.hid (HBD.out.snoc (y := x3) q1 q2 q3)
              have HR3 := Lib.hid r3
              clear q1 q2 q3
              go_wp2_with (at_builtin; refine wp_appVsk rfl _ _ 22 rfl w.heap.size M [⟨x7 - 2, s + x1 + 1 + x4, x2, .slice (some ⟨wr.heap.size, 0, none⟩) 1 1⟩] _ _ rfl rfl (((HO.out.alloc _).alloc _).alloc _) (OwnVs.one2 HX.out wr _ _).rd.src ?_ ?_ ?_; (have := HB.out.size; simp; omega); (have := HLM.out; simp; omega); intro v3 w3 ho3 hb3 hk3; have O3 := Lib.hid ho3; have B3 := Lib.hid ((bal (bal (bal HB.out _) _) _).trans hb3); have M3 : Hid (VmAt w.heap.size (M ++ [⟨x7 - 2, s + x1 + 1 + x4, x2, .slice (some ⟨wr.heap.size, 0, none⟩) 1 1⟩]) (L ++ [⟨x7 - 2, s + x1 + 1 + x4, x2, [x3]⟩]) w3) := Lib.hid ((((HMA.out.below (b3 _ _ _)).snoc (m := ⟨x7 - 2, s + x1 + 1 + x4, x2, .slice (some ⟨wr.heap.size, 0, none⟩) 1 1⟩) (p := ⟨x7 - 2, s + x1 + 1 + x4, x2, [x3]⟩) ⟨rfl, rfl, rfl, (((OwnI.one (c := x3) ⟨by have := HR3.out; omega, by have := HR3.out; omega⟩ wr).alloc _).alloc _).mono HB.out.size⟩)).kpt (hk3 _ ne_int_vs)); clear ho3 hb3 hk3)
              go_roundw
              case rel => exact ⟨q + 1, s + x1 + 1 + x4, by omega, by omega, by go_num, by (try go_num), by omega, by omega, Lib.hid ⟨_, _, by simp [HM.out], O3.out, M3.out, HBX.out, B3.out⟩⟩
              case measure => simp [intOf]; omega
            · by_cases g1 : x6 = 1
              · subst g1
                have q1 : -2 ≤ s + x1 ∧ s + x1 ≤ 100 := by omega
                have q2 : -2 ≤ x7 - 2 ∧ x7 - 2 ≤ 100 := by omega
                have q3 : -1 ≤ x2 ∧ x2 ≤ 31 := by omega
                have HX : Hid (Vs.ok ⟨s + x1, x7 - 2, x2, .slice (some ⟨wr.heap.size, 0, none⟩) 1 1⟩) := Lib.hid (vs_okB q1 q2 q3)
                have HBX := Lib.hid (HBD.out.snoc (y := x3) q1 q2 q3)
                have HR3 := Lib.hid r3
                clear q1 q2 q3
                go_wp2_with (at_builtin; refine wp_appVsk rfl _ _ 22 rfl w.heap.size M [⟨s + x1, x7 - 2, x2, .slice (some ⟨wr.heap.size, 0, none⟩) 1 1⟩] _ _ rfl rfl (((HO.out.alloc _).alloc _).alloc _) (OwnVs.one2 HX.out wr _ _).rd.src ?_ ?_ ?_; (have := HB.out.size; simp; omega); (have := HLM.out; simp; omega); intro v3 w3 ho3 hb3 hk3; have O3 := Lib.hid ho3; have B3 := Lib.hid ((bal (bal (bal HB.out _) _) _).trans hb3); have M3 : Hid (VmAt w.heap.size (M ++ [⟨s + x1, x7 - 2, x2, .slice (some ⟨wr.heap.size, 0, none⟩) 1 1⟩]) (L ++ [⟨s + x1, x7 - 2, x2, [x3]⟩]) w3) := Lib.hid ((((HMA.out.below (b3 _ _ _)).snoc (m := ⟨s + x1, x7 - 2, x2, .slice (some ⟨wr.heap.size, 0, none⟩) 1 1⟩) (p := ⟨s + x1, x7 - 2, x2, [x3]⟩) ⟨rfl, rfl, rfl, (((OwnI.one (c := x3) ⟨by have := HR3.out; omega, by have := HR3.out; omega⟩ wr).alloc _).alloc _).mono HB.out.size⟩)).kpt (hk3 _ ne_int_vs)); clear ho3 hb3 hk3)
                go_roundw
                case rel => exact ⟨q + 1, s + x1 + 1 + x4, by omega, by omega, by go_num, by (try go_num), by omega, by omega, Lib.hid ⟨_, _, by simp [HM.out], O3.out, M3.out, HBX.out, B3.out⟩⟩
                case measure => simp [intOf]; omega
              · by_cases g2 : x6 = 2
                · subst g2
                  have q1 : -2 ≤ s + x1 ∧ s + x1 ≤ 100 := by omega
                  have q2 : -2 ≤ s + x1 + 1 + x4 ∧ s + x1 + 1 + x4 ≤ 100 := by omega
                  have q3 : -1 ≤ (-1 : Int) ∧ (-1 : Int) ≤ 31 := by omega
                  have HX : Hid (Vs.ok ⟨s + x1, s + x1 + 1 + x4, (-1 : Int), .slice (some ⟨wr.heap.size, 0, none⟩) 1 1⟩) := Lib.hid (vs_okB q1 q2 q3)
                  have HBX := Lib.hid (HBD.out.snoc (y := x3) q1 q2 q3)
                  have HR3 := Lib.hid r3
                  clear q1 q2 q3
                  go_wp2_with (at_builtin; refine wp_appVsk rfl _ _ 22 rfl w.heap.size M [⟨s + x1, s + x1 + 1 + x4, (-1 : Int), .slice (some ⟨wr.heap.size, 0, none⟩) 1 1⟩] _ _ rfl rfl (((HO.out.alloc _).alloc _).alloc _) (OwnVs.one2 HX.out wr _ _).rd.src ?_ ?_ ?_; (have := HB.out.size; simp; omega); (have := HLM.out; simp; omega); intro v3 w3 ho3 hb3 hk3; have O3 := Lib.hid ho3; have B3 := Lib.hid ((bal (bal (bal HB.out _) _) _).trans hb3); have M3 : Hid (VmAt w.heap.size (M ++ [⟨s + x1, s + x1 + 1 + x4, (-1 : Int), .slice (some ⟨wr.heap.size, 0, none⟩) 1 1⟩]) (L ++ [⟨s + x1, s + x1 + 1 + x4, (-1 : Int), [x3]⟩]) w3) := Lib.hid ((((HMA.out.below (b3 _ _ _)).snoc (m := ⟨s + x1, s + x1 + 1 + x4, (-1 : Int), .slice (some ⟨wr.heap.size, 0, none⟩) 1 1⟩) (p := ⟨s + x1, s + x1 + 1 + x4, (-1 : Int), [x3]⟩) ⟨rfl, rfl, rfl, (((OwnI.one (c := x3) ⟨by have := HR3.out; omega, by have := HR3.out; omega⟩ wr).alloc _).alloc _).mono HB.out.size⟩)).kpt (hk3 _ ne_int_vs)); clear ho3 hb3 hk3)
                  go_roundw
                  case rel => exact ⟨q + 1, s + x1 + 1 + x4, by omega, by omega, by go_num, by (try go_num), by omega, by omega, Lib.hid ⟨_, _, by simp [HM.out], O3.out, M3.out, HBX.out, B3.out⟩⟩
                  case measure => simp [intOf]; omega
                · have q1 : -2 ≤ s + x1 ∧ s + x1 ≤ 100 := by omega
                  have q2 : -2 ≤ s + x1 + 1 + x4 ∧ s + x1 + 1 + x4 ≤ 100 := by omega
                  have q3 : -1 ≤ x2 ∧ x2 ≤ 31 := by omega
                  have HX : Hid (Vs.ok ⟨s + x1, s + x1 + 1 + x4, x2, .slice (some ⟨wr.heap.size, 0, none⟩) 1 1⟩) := Lib.hid (vs_okB q1 q2 q3)
                  have HBX := Lib.hid (HBD.out.snoc (y := x3) q1 q2 q3)
                  have HR3 := Lib.hid r3
                  clear q1 q2 q3
                  go_wp2_with (at_builtin; refine wp_appVsk rfl _ _ 22 rfl w.heap.size M [⟨s + x1, s + x1 + 1 + x4, x2, .slice (some ⟨wr.heap.size, 0, none⟩) 1 1⟩] _ _ rfl rfl (((HO.out.alloc _).alloc _).alloc _) (OwnVs.one2 HX.out wr _ _).rd.src ?_ ?_ ?_; (have := HB.out.size; simp; omega); (have := HLM.out; simp; omega); intro v3 w3 ho3 hb3 hk3; have O3 := Lib.hid ho3; have B3 := Lib.hid ((bal (bal (bal HB.out _) _) _).trans hb3); have M3 : Hid (VmAt w.heap.size (M ++ [⟨s + x1, s + x1 + 1 + x4, x2, .slice (some ⟨wr.heap.size, 0, none⟩) 1 1⟩]) (L ++ [⟨s + x1, s + x1 + 1 + x4, x2, [x3]⟩]) w3) := Lib.hid ((((HMA.out.below (b3 _ _ _)).snoc (m := ⟨s + x1, s + x1 + 1 + x4, x2, .slice (some ⟨wr.heap.size, 0, none⟩) 1 1⟩) (p := ⟨s + x1, s + x1 + 1 + x4, x2, [x3]⟩) ⟨rfl, rfl, rfl, (((OwnI.one (c := x3) ⟨by have := HR3.out; omega, by have := HR3.out; omega⟩ wr).alloc _).alloc _).mono HB.out.size⟩)).kpt (hk3 _ ne_int_vs)); clear ho3 hb3 hk3)
                  go_roundw
                  case rel => exact ⟨q + 1, s + x1 + 1 + x4, by omega, by omega, by go_num, by (try go_num), by omega, by omega, Lib.hid ⟨_, _, by simp [HM.out], O3.out, M3.out, HBX.out, B3.out⟩⟩
                  case measure => simp [intOf]; omega
        · have hqe2 : ¬ (q : Int) + 1 = (Z.length : Int) := by omega
          by_cases g0 : x6 = 0
          · subst g0
            have q1 : -2 ≤ x7 - 2 ∧ x7 - 2 ≤ 100 := by omega
            have q2 : -2 ≤ s + x1 + 1 + x4 ∧ s + x1 + 1 + x4 ≤ 100 := by omega
            have q3 : -1 ≤ x2 ∧ x2 ≤ 31 := by omega
            have HX : Hid (Vs.ok ⟨x7 - 2, s + x1 + 1 + x4, x2, .slice (some ⟨wr.heap.size, 0, none⟩) 1 1⟩) := Lib.hid (vs_okB q1 q2 q3)
            have HBX := Lib.hid (HBD.out.snoc (y := x3) q1 q2 q3)
            have HR3 := Lib.hid r3
            clear q1 q2 q3
            go_wp2_with (at_builtin; refine wp_appVsk rfl _ _ 22 rfl w.heap.size M [⟨x7 - 2, s + x1 + 1 + x4, x2, .slice (some ⟨wr.heap.size, 0, none⟩) 1 1⟩] _ _ rfl rfl (((HO.out.alloc _).alloc _).alloc _) (OwnVs.one2 HX.out wr _ _).rd.src ?_ ?_ ?_; (have := HB.out.size; simp; omega); (have := HLM.out; simp; omega); intro v3 w3 ho3 hb3 hk3; have O3 := Lib.hid ho3; have B3 := Lib.hid ((bal (bal (bal HB.out _) _) _).trans hb3); have M3 : Hid (VmAt w.heap.size (M ++ [⟨x7 - 2, s + x1 + 1 + x4, x2, .slice (some ⟨wr.heap.size, 0, none⟩) 1 1⟩]) (L ++ [⟨x7 - 2, s + x1 + 1 + x4, x2, [x3]⟩]) w3) := Lib.hid ((((HMA.out.below (b3 _ _ _)).snoc (m := ⟨x7 - 2, s + x1 + 1 + x4, x2, .slice (some ⟨wr.heap.size, 0, none⟩) 1 1⟩) (p := ⟨x7 - 2, s + x1 + 1 + x4, x2, [x3]⟩) ⟨rfl, rfl, rfl, (((OwnI.one (c := x3) ⟨by have := HR3.out; omega, by have := HR3.out; omega⟩ wr).alloc _).alloc _).mono HB.out.size⟩)).kpt (hk3 _ ne_int_vs)); clear ho3 hb3 hk3)
            go_roundw
            case rel => exact ⟨q + 1, s + x1 + 1 + x4, by omega, by omega, by go_num, by (try go_num), by omega, by omega, Lib.hid ⟨_, _, by simp [HM.out], O3.out, M3.out, HBX.out, B3.out⟩⟩
            case measure => simp [intOf]; omega
          · by_cases g1 : x6 = 1
            · subst g1
              have q1 : -2 ≤ s + x1 ∧ s + x1 ≤ 100 := by omega
              have q2 : -2 ≤ x7 - 2 ∧ x7 - 2 ≤ 100 := by omega
              have q3 : -1 ≤ x2 ∧ x2 ≤ 31 := by omega
              have HX : Hid (Vs.ok ⟨s + x1, x7 - 2, x2, .slice (some ⟨wr.heap.size, 0, none⟩) 1 1⟩) := Lib.hid (vs_okB q1 q2 q3)
              have HBX := Lib.hid (HBD.out.snoc (y := x3) q1 q2 q3)
              have HR3 := Lib.hid r3
              clear q1 q2 q3
              go_wp2_with (at_builtin; refine wp_appVsk rfl _ _ 22 rfl w.heap.size M [⟨s + x1, x7 - 2, x2, .slice (some ⟨wr.heap.size, 0, none⟩) 1 1⟩] _ _ rfl rfl (((HO.out.alloc _).alloc _).alloc _) (OwnVs.one2 HX.out wr _ _).rd.src ?_ ?_ ?_; (have := HB.out.size; simp; omega); (have := HLM.out; simp; omega); intro v3 w3 ho3 hb3 hk3; have O3 := Lib.hid ho3; have B3 := Lib.hid ((bal (bal (bal HB.out _) _) _).trans hb3); have M3 : Hid (VmAt w.heap.size (M ++ [⟨s + x1, x7 - 2, x2, .slice (some ⟨wr.heap.size, 0, none⟩) 1 1⟩]) (L ++ [⟨s + x1, x7 - 2, x2, [x3]⟩]) w3) := Lib.hid ((((HMA.out.below (b3 _ _ _)).snoc (m := ⟨s + x1, x7 - 2, x2, .slice (some ⟨wr.heap.size, 0, none⟩) 1 1⟩) (p := ⟨s + x1, x7 - 2, x2, [x3]⟩) ⟨rfl, rfl, rfl, (((OwnI.one (c := x3) ⟨by have := HR3.out; omega, by have := HR3.out; omega⟩ wr).alloc _).alloc _).mono HB.out.size⟩)).kpt (hk3 _ ne_int_vs)); clear ho3 hb3 hk3)
              go_roundw
              case rel => exact ⟨q + 1, s + x1 + 1 + x4, by omega, by omega, by go_num, by (try go_num), by omega, by omega, Lib.hid ⟨_, _, by simp [HM.out], O3.out, M3.out, HBX.out, B3.out⟩⟩
              case measure => simp [intOf]; omega
            · by_cases g2 : x6 = 2
              · subst g2
                have q1 : -2 ≤ s + x1 ∧ s + x1 ≤ 100 := by omega
                have q2 : -2 ≤ s + x1 + 1 + x4 ∧ s + x1 + 1 + x4 ≤ 100 := by omega
                have q3 : -1 ≤ (-1 : Int) ∧ (-1 : Int) ≤ 31 := by omega
                have HX : Hid (Vs.ok ⟨s + x1, s + x1 + 1 + x4, (-1 : Int), .slice (some ⟨wr.heap.size, 0, none⟩) 1 1⟩) := Lib.hid (vs_okB q1 q2 q3)
                have HBX := Lib.hid (HBD.out.snoc (y := x3) q1 q2 q3)
                have HR3 := Lib.hid r3
                clear q1 q2 q3
                go_wp2_with (at_builtin; refine wp_appVsk rfl _ _ 22 rfl w.heap.size M [⟨s + x1, s + x1 + 1 + x4, (-1 : Int), .slice (some ⟨wr.heap.size, 0, none⟩) 1 1⟩] _ _ rfl rfl (((HO.out.alloc _).alloc _).alloc _) (OwnVs.one2 HX.out wr _ _).rd.src ?_ ?_ ?_; (have := HB.out.size; simp; omega); (have := HLM.out; simp; omega); intro v3 w3 ho3 hb3 hk3; have O3 := Lib.hid ho3; have B3 := Lib.hid ((bal (bal (bal HB.out _) _) _).trans hb3); have M3 : Hid (VmAt w.heap.size (M ++ [⟨s + x1, s + x1 + 1 + x4, (-1 : Int), .slice (some ⟨wr.heap.size, 0, none⟩) 1 1⟩]) (L ++ [⟨s + x1, s + x1 + 1 + x4, (-1 : Int), [x3]⟩]) w3) := Lib.hid ((((HMA.out.below (b3 _ _ _)).snoc (m := ⟨s + x1, s + x1 + 1 + x4, (-1 : Int), .slice (some ⟨wr.heap.size, 0, none⟩) 1 1⟩) (p := ⟨s + x1, s + x1 + 1 + x4, (-1 : Int), [x3]⟩) ⟨rfl, rfl, rfl, (((OwnI.one (c := x3) ⟨by have := HR3.out; omega, by have := HR3.out; omega⟩ wr).alloc _).alloc _).mono HB.out.size⟩)).kpt (hk3 _ ne_int_vs)); clear ho3 hb3 hk3)
                go_roundw
                case rel => exact ⟨q + 1, s + x1 + 1 + x4, by omega, by omega, by go_num, by (try go_num), by omega, by omega, Lib.hid ⟨_, _, by simp [HM.out], O3.out, M3.out, HBX.out, B3.out⟩⟩
                case measure => simp [intOf]; omega
              · have q1 : -2 ≤ s + x1 ∧ s + x1 ≤ 100 := by omega
                have q2 : -2 ≤ s + x1 + 1 + x4 ∧ s + x1 + 1 + x4 ≤ 100 := by omega
                have q3 : -1 ≤ x2 ∧ x2 ≤ 31 := by omega
                have HX : Hid (Vs.ok ⟨s + x1, s + x1 + 1 + x4, x2, .slice (some ⟨wr.heap.size, 0, none⟩) 1 1⟩) := Lib.hid (vs_okB q1 q2 q3)
                have HBX := Lib.hid (HBD.out.snoc (y := x3) q1 q2 q3)
                have HR3 := Lib.hid r3
                clear q1 q2 q3
                go_wp2_with (at_builtin; refine wp_appVsk rfl _ _ 22 rfl w.heap.size M [⟨s + x1, s + x1 + 1 + x4, x2, .slice (some ⟨wr.heap.size, 0, none⟩) 1 1⟩] _ _ rfl rfl (((HO.out.alloc _).alloc _).alloc _) (OwnVs.one2 HX.out wr _ _).rd.src ?_ ?_ ?_; (have := HB.out.size; simp; omega); (have := HLM.out; simp; omega); intro v3 w3 ho3 hb3 hk3; have O3 := Lib.hid ho3; have B3 := Lib.hid ((bal (bal (bal HB.out _) _) _).trans hb3); have M3 : Hid (VmAt w.heap.size (M ++ [⟨s + x1, s + x1 + 1 + x4, x2, .slice (some ⟨wr.heap.size, 0, none⟩) 1 1⟩]) (L ++ [⟨s + x1, s + x1 + 1 + x4, x2, [x3]⟩]) w3) := Lib.hid ((((HMA.out.below (b3 _ _ _)).snoc (m := ⟨s + x1, s + x1 + 1 + x4, x2, .slice (some ⟨wr.heap.size, 0, none⟩) 1 1⟩) (p := ⟨s + x1, s + x1 + 1 + x4, x2, [x3]⟩) ⟨rfl, rfl, rfl, (((OwnI.one (c := x3) ⟨by have := HR3.out; omega, by have := HR3.out; omega⟩ wr).alloc _).alloc _).mono HB.out.size⟩)).kpt (hk3 _ ne_int_vs)); clear ho3 hb3 hk3)
                go_roundw
                case rel => exact ⟨q + 1, s + x1 + 1 + x4, by omega, by omega, by go_num, by (try go_num), by omega, by omega, Lib.hid ⟨_, _, by simp [HM.out], O3.out, M3.out, HBX.out, B3.out⟩⟩
                case measure => simp [intOf]; omega
      · have hne : ¬ (q : Int) < 6 := by omega
        go_wp2
        go_ret
        exact ⟨M, L, by (have := HM.out; have := HMA.out.len; omega), .slice a5 M.length c5, rfl, HO.out, HMA.out, HBD.out, HB.out⟩
    · have hne : ¬ (q : Int) < (Z.length : Int) := by omega
      go_wp2
      go_ret
      exact ⟨M, L, by (have := HM.out; have := HMA.out.len; omega), .slice a5 M.length c5, rfl, HO.out, HMA.out, HBD.out, HB.out⟩
end Go.Proofs.Ytakickggpfbafaa
