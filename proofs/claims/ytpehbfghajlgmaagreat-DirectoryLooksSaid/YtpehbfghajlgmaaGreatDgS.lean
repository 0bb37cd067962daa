/- slices.SortFunc at bindings; hasTwoNames. -/
import Derived.Test.YtpehbfghajlgmaaGreatDgO
import Derived.Test.YtpehbfghajlgmaaGreatDgC
import Derived.Test.YtpehbfghajlgmaaGreatSortB
import Derived.Lib.OwnBridge
namespace Go.Proofs.YtpehbfghajlgmaaGreat
open Go.RowKit
set_option linter.unusedVariables false
set_option linter.unusedSimpArgs false
/-- Draws and new blocks behind, nothing else. -/
def Gr (w w' : World) : Prop := ∃ q os, w' = Go.Sort.grow (w.drewN q) os
theorem Gr.refl (w : World) : Gr w w := ⟨0, #[], by simp [Go.Sort.grow, World.drewN]⟩
theorem Gr.alloc {w w' : World} (h : Gr w w') (o : Obj) : Gr w (w'.alloc o) := by
  obtain ⟨q, os, rfl⟩ := h
  exact ⟨q, os ++ #[o], by rw [Go.Sort.alloc_eq_grow, Go.Sort.grow_grow]⟩
theorem Gr.drewN {w w' : World} (h : Gr w w') (n : Nat) : Gr w (w'.drewN n) := by
  obtain ⟨q, os, rfl⟩ := h
  exact ⟨q + n, os, by simp [Go.Sort.grow, World.drewN, Nat.add_assoc]⟩
theorem Gr.drew {w w' : World} (h : Gr w w') : Gr w w'.drew := by
  obtain ⟨q, os, rfl⟩ := h
  exact ⟨q + 1, os, by simp [Go.Sort.grow, World.drewN, World.drew, Nat.add_assoc]⟩
set_option maxRecDepth 100000 in
set_option maxHeartbeats 1000000 in
theorem cmpT_any (x y : Bg) (w : World) : Calls Tryz.prog 63 #[.agg #[.string x.n, .int .i64 x.r, .int .i64 x.k, .int .i64 x.s], .agg #[.string y.n, .int .i64 y.r, .int .i64 y.k, .int .i64 y.s]] w fun e w' =>
      e = .returned (.int .i64 (cmpT x y)) ∧ Gr w w' := by
  have h1 := fun a b w => cmpi_any a b w
  have h3 := fun g w h0 h1 => or_any (cmpI x.r y.r) (cmpI x.k y.k) g w h0 h1
  unfold cmpT
  obtain ⟨n, r, k, s⟩ := x
  obtain ⟨n', r', k', s'⟩ := y
  dsimp only at h1 h3 ⊢
  generalize or2 (cmpI r r') (cmpI k k') = R at *
  go_enter Tryz.func63, Tryz.ntmps63
  go_wp2
  go_region_law (go_simp; first
    | (go_at_call 57; refine (h1 _ _ _).mono ?_; rintro e w' ⟨rfl, rfl⟩)
    | (go_at_call 55; refine (h3 _ _ (by go_simp) (by go_simp)).mono ?_; rintro e w' ⟨rfl, rfl⟩))
  all_goals
    go_wp2
    go_ret
    exact ⟨rfl, by first | exact (((Gr.refl w).alloc _).alloc _).alloc _ | exact ((((Gr.refl w).alloc _).alloc _).alloc _).drew | exact ((((Gr.refl w).alloc _).alloc _).alloc _).drewN _⟩
instance : Inhabited Bg := ⟨Bg.z⟩
theorem swoT : Go.Sort.SWO (ltOf cmpT) where
  irrefl x := by show decide (cmpT x x < 0) = false; rw [cmpT_lt]; unfold ltT; simp
  trans x y z h1 h2 := by
    have h1 : decide (cmpT x y < 0) = true := h1
    have h2 : decide (cmpT y z < 0) = true := h2
    show decide (cmpT x z < 0) = true
    rw [cmpT_lt] at *
    unfold ltT at *
    simp only [Bool.or_eq_true, Bool.and_eq_true, decide_eq_true_eq, beq_iff_eq] at *
    omega
  ntrans x y z h1 h2 := by
    have h1 : decide (cmpT x y < 0) = false := h1
    have h2 : decide (cmpT y z < 0) = false := h2
    show decide (cmpT x z < 0) = false
    rw [cmpT_lt] at *
    unfold ltT at *
    simp only [Bool.or_eq_false_iff, Bool.and_eq_false_iff, decide_eq_false_iff_not, beq_eq_false_iff_ne] at *
    omega
theorem bg_cs_len (x : Bg) : x.cs.length = 4 := rfl
theorem bg_one (x : Bg) : ∀ v ∈ x.cs, v.oneCell' = true := by
  intro v hv
  simp only [Bg.cs, List.mem_cons, List.mem_nil_iff, or_false] at hv
  rcases hv with rfl | rfl | rfl | rfl <;> rfl
theorem toArr_get (L : List Bg) (i : Nat) : L.toArray[i]! = L.getD i Bg.z := by
  by_cases h : i < L.length
  · simp [getElem!_pos, h, List.getD]
  · rw [getElem!_neg _ _ (by simpa using h)]
    simp [List.getD, List.getElem?_eq_none (Nat.le_of_not_lt h)]
    rfl
theorem OwnBg.holds {B : Nat} {L : List Bg} {g cap : Nat} {w : World} (h : OwnBg B L (.slice (some ⟨g, 0, none⟩) L.length cap) w) : Go.Sort.HoldsK Bg.cs 4 w g 0 L.toArray := by
  intro t ht
  rw [Go.Sort.size_flatK] at ht
  have ht' : t < L.length * 4 := by simpa using ht
  rw [Go.Sort.get_flatK _ _ _ t ht, toArr_get, Nat.zero_add]
  refine ⟨?_, h.frozen t⟩
  obtain ⟨c0, c1, c2, c3⟩ := h.cellsAt (j := t / 4) (by omega)
  have hm : t % 4 = 0 ∨ t % 4 = 1 ∨ t % 4 = 2 ∨ t % 4 = 3 := by omega
  generalize L.getD (t / 4) Bg.z = x at *
  rcases hm with hm | hm | hm | hm
  · rw [hm]
    have e : t = t / 4 * 4 := by omega
    rw [← e] at c0
    exact c0
  · rw [hm]
    have e : t = t / 4 * 4 + 1 := by omega
    rw [← e] at c1
    exact c1
  · rw [hm]
    have e : t = t / 4 * 4 + 2 := by omega
    rw [← e] at c2
    exact c2
  · rw [hm]
    have e : t = t / 4 * 4 + 3 := by omega
    rw [← e] at c3
    exact c3
theorem holds_rd {d : Array Bg} {n g cap : Nat} {w : World} (h : Go.Sort.HoldsK Bg.cs 4 w g 0 d) (hn : d.size = n) (ho : BgOk d.toList) (hg : g < w.heap.size) (h1 : n ≤ cap) (h2 : cap ≤ maxLen) : RdBg d.toList (.slice (some ⟨g, 0, none⟩) n cap) w := by
  subst hn
  refine ⟨ho, some ⟨g, 0, none⟩, cap, by simp, by simpa using h1, h2, fun _ => ⟨g, 0, rfl, hg, fun j hj => ?_⟩⟩
  have hj' : j < d.size := by simpa using hj
  have e : d.toList.getD j Bg.z = d[j]! := by simp [List.getD, getElem!_pos, hj']
  rw [e]
  have c0 := (h.cell (i := j) (c := 0) hj' (by decide)).1
  have c1 := (h.cell (i := j) (c := 1) hj' (by decide)).1
  have c2 := (h.cell (i := j) (c := 2) hj' (by decide)).1
  have c3 := (h.cell (i := j) (c := 3) hj' (by decide)).1
  exact ⟨c0, c1, c2, c3⟩
theorem below_growS (w : World) (os : Array Obj) : Below w.heap.size w (Go.Sort.grow w os) := ⟨rfl, rfl, rfl, by simp [Go.Sort.grow], fun k hk => by simp [Go.Sort.grow, Array.getElem?_append_left hk]⟩
/-- Ascending by object and From. -/
def AscT (M : List Bg) : Prop := ∀ i j, i < j → j < M.length → ltT (M.getD j Bg.z) (M.getD i Bg.z) = false
theorem enters_cmpT : ∀ args w, (callFunc 63 args).run Tryz.prog w = .ok (.enter 63 args) w := Go.Proofs.enters_of Tryz.func63 (by kernel_rfl) rfl
/-- What the sort leaves. -/
def SrtPost (B : Nat) (L : List Bg) (v : Value) (w : World) (e : Ending) (w' : World) : Prop := e = .returned (.tuple #[]) ∧ ∃ M, M.Perm L ∧ AscT M ∧ RdBg M v w' ∧ Below B w w'
theorem sortB_any (L : List Bg) (B : Nat) (v : Value) (w : World) (hv : OwnBg B L v w) (hB : B ≤ w.heap.size) (hL : L.length ≤ 1000000) :
    Calls Tryz.prog 62 #[v, .func (.func 63) #[] #[]] w fun e w' => SrtPost B L v w e w' := by
  have hrd := hv.rd
  rcases hv.2.2 with ⟨he, hl⟩ | ⟨g, cap, cur, he, hb, hg, h1, h2, -⟩
  · subst he
    obtain rfl := List.eq_nil_of_length_eq_zero hl
    refine (AnyF.slices_SortFunc_none { Tryz.sortB with } none 0 _ w).mono ?_
    rintro e w' ⟨rfl, rfl⟩
    exact ⟨rfl, [], List.Perm.refl _, fun i j _ h => by simp at h, hrd, Below.refl _ _⟩
  · subst he
    have hlt := (World.ownsRow.lt hv.2 g rfl).2
    have hH := hv.holds
    have hsz : L.toArray.size = L.length := by simp
    have hcon := AnyQ.slices_SortFunc Tryz.sortB 4 Tryz.isAgg27 Tryz.sizeOf27 Bg.cs bg_cs_len bg_one cmpT swoT 63 #[] g 0 cap L.toArray w enters_cmpT (fun m os dk hdk x y => cmpT_any x y _) hH hlt (by rw [hsz]; omega)
    rw [hsz] at hcon
    refine Calls.mono hcon ?_
    rintro e w' ⟨rfl, d', n, os, hp, hs, rfl⟩
    have hd : d'.size = L.length := by have := hp.1; simpa using this
    have hpm : d'.toList.Perm L := by
      have h3 := hp.2.2
      rw [Array.extract_eq_self_of_le (by rw [hd]; exact Nat.le_refl _), Array.extract_eq_self_of_le (by simp)] at h3
      simpa using h3
    have hgt : ∀ i, d'.toList.getD i Bg.z = d'[i]! := fun i => by
      have := toArr_get d'.toList i
      simpa using this.symm
    refine ⟨rfl, d'.toList, hpm, ?_, ?_, ?_⟩
    · intro i j hij hj
      have h4 := hs i j (Nat.zero_le _) hij (by simpa [hd] using hj)
      rw [hgt, hgt, ← cmpT_lt]
      exact h4
    · have hK := holdsK_sortWorldK_c Bg.cs 4 w g 0 L.toArray d' n os hH hlt (by rw [hd, hsz])
      have hrow := holds_rd (cap := cap) hK hd (fun x hx => hrd.1 x (hpm.mem_iff.1 hx)) (Nat.lt_of_lt_of_le hlt (size_sortWorldK_c Bg.cs 4 w g 0 n d' os)) h1 h2
      exact hrow
    · unfold sortWorldK
      have h5 : Below B w (Go.Sort.putRowK Bg.cs 4 (Go.Sort.ahead w n) g 0 d') := Lib.below_putRow (Below.refl B w) hb
      exact h5.trans ((below_growS _ os).mono (Nat.le_trans hB h5.size))
end Go.Proofs.YtpehbfghajlgmaaGreat
