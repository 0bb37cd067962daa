/- BcY, RVl, Ins1, Kn12: in one text. -/
import Derived.Test.YtjibbnknliamkaaGreatDoorPg02
import Derived.Test.YtjibbnknliamkaaGreatDoorPg28
import Derived.Test.YtjibbnknliamkaaGreatDoorPg14
import Derived.Test.YtjibbnknliamkaaGreatDoorPg25
import Derived.Test.YtjibbnknliamkaaGreatDoorPg12
import Derived.Test.YtjibbnknliamkaaGreatDoorPg08
import Derived.Test.YtjibbnknliamkaaGreatDoorPg23
import Derived.Test.YtjibbnknliamkaaGreatDoorPg06
import Derived.Test.YtjibbnknliamkaaGreatDoorPg24
import Derived.Test.YtjibbnknliamkaaGreatDoorPg00
import Derived.Test.YtjibbnknliamkaaGreatDoorPg26
import Derived.Test.YtjibbnknliamkaaGreatDoorPg27
import Derived.Test.YtjibbnknliamkaaGreatDoorPg03
import Derived.BigRegion
namespace Go.Proofs.YtjibbnknliamkaaGreatDoor
open Go Go.RowKit
set_option linter.unusedVariables false
set_option linter.unusedSimpArgs false
/-- What a store of an entry's error leaves. -/
theorem OwnE.storedErr {B : Nat} {L : List Ent} {g cap : Nat} {w : World} (h : OwnE B L (.slice (some ⟨g, 0, none⟩) L.length cap) w) {j : Nat} (hj : j < L.length) {c : Int} (hx : -9223372036854775808 ≤ c ∧ c ≤ 9223372036854775807) :
    OwnE B (L.set j ⟨(L.getD j Ent.z).k, (L.getD j Ent.z).c, c⟩) (.slice (some ⟨g, 0, none⟩) L.length cap) (w.setCell ⟨g, j * 3 + 2, none⟩ (.int .i64 c)) := by
  obtain ⟨hy, ho⟩ := h
  refine ⟨hy.set j ⟨(hy.at_ j).1, (hy.at_ j).2.1, hx⟩, ?_⟩
  have h2 := (World.ownsRow.stored ho (j * 3 + 2) (.int .i64 c)).1
  rw [List.length_set, cellsE_set]
  obtain ⟨c0, c1, c2⟩ := cellsE_at hj
  have e : (((cellsE L).set (j * 3) (.string (L.getD j Ent.z).k)).set (j * 3 + 1) (.int .i64 (L.getD j Ent.z).c)).set (j * 3 + 2) (.int .i64 c) = (cellsE L).set (j * 3 + 2) (.int .i64 c) := by
    apply List.ext_getElem?
    intro i
    simp only [List.getElem?_set, List.length_set]
    have l0 : j * 3 < L.length * 3 := by omega
    have l1 : j * 3 + 1 < L.length * 3 := by omega
    have l2 : j * 3 + 2 < L.length * 3 := by omega
    by_cases h0 : i = j * 3
    · subst h0
      have q := (List.getElem?_eq_some_iff.1 c0).2
      simpa [cellsE_len, l0] using q.symm
    · by_cases h1 : i = j * 3 + 1
      · subst h1
        have q := (List.getElem?_eq_some_iff.1 c1).2
        simpa [cellsE_len, l1] using q.symm
      · by_cases h2 : i = j * 3 + 2
        · subst h2
          simp [cellsE_len, l2]
        · simp [Ne.symm h0, Ne.symm h1, Ne.symm h2]
  rw [e]
  exact h2
def setE (K : Int) (x : Ent) : Ent := ⟨x.k, x.c, K⟩
def mixE (K : Int) (L : List Ent) (i : Nat) : List Ent := (L.take i).map (setE K) ++ L.drop i
theorem mixE_len (K : Int) (L : List Ent) (i : Nat) : (mixE K L i).length = L.length := by unfold mixE; simp; omega
theorem mixE_zero (K : Int) (L : List Ent) : mixE K L 0 = L := by simp [mixE]
theorem mixE_all (K : Int) (L : List Ent) : mixE K L L.length = L.map (setE K) := by simp [mixE]
theorem mixE_at (K : Int) (L : List Ent) (i : Nat) : (mixE K L i).getD i Ent.z = L.getD i Ent.z := by
  by_cases h : i < L.length
  · unfold mixE
    simp only [List.getD]
    rw [List.getElem?_append_right (by simp; omega)]
    simp [Nat.min_eq_left (Nat.le_of_lt h)]
  · simp only [List.getD]
    rw [List.getElem?_eq_none (by rw [mixE_len]; omega), List.getElem?_eq_none (by omega)]
theorem mixE_succ (K : Int) (L : List Ent) {i : Nat} (h : i < L.length) : (mixE K L i).set i ⟨(L.getD i Ent.z).k, (L.getD i Ent.z).c, K⟩ = mixE K L (i + 1) := by
  apply List.ext_getElem?
  intro j
  rw [List.getElem?_set]
  by_cases hj : i = j
  · subst hj
    have hl : i < (mixE K L i).length := by rw [mixE_len]; exact h
    rw [if_pos rfl, if_pos hl]
    unfold mixE
    rw [List.getElem?_append_left (by simp; omega)]
    simp [List.getD, h, setE]
  · rw [if_neg hj]
    unfold mixE
    by_cases hlt : j < i
    · rw [List.getElem?_append_left (by simp; omega), List.getElem?_append_left (by simp; omega)]
      simp [List.getElem?_take, hlt, Nat.lt_succ_of_lt hlt]
    · rw [List.getElem?_append_right (by simp; omega), List.getElem?_append_right (by simp; omega)]
      simp only [List.length_map, List.length_take, List.getElem?_drop, Nat.min_eq_left (Nat.le_of_lt h), Nat.min_eq_left (show i + 1 ≤ L.length by omega)]
      congr 1
      omega
set_option maxRecDepth 100000 in
set_option maxHeartbeats 2000000 in
theorem bc_top (t : TP) (a1 : Option Addr) (c1 : Nat) (a2 : Option Addr) (c2 : Nat) (a3 : Option Addr) (c3 : Nat) (a4 : Option Addr) (c4 : Nat) (a5 : Option Addr) (c5 : Nat) (w : World) (h : RowsK (fmO t) (.slice a1 0 c1) (.slice a2 0 c2) (.slice a3 t.L.length c3) (.slice a4 0 c4) (.slice a5 0 c5) w) (hn : t.L.length ≤ 1099511627776) :
    Calls Tryz.prog 46 #[.agg #[.int .i64 4, .int .i64 t.S, .int .i64 0, .int .u64 0, .int .i64 0, .int .i64 0, .bool false, .int .i64 0, .int .i64 0, .int .u64 0, .slice a1 0 c1, .bool false, .int .i64 0, .int .u64 0, .slice a2 0 c2, .int .i64 t.S, .int .i64 t.T, .slice a3 t.L.length c3, .bool t.s, .int .i64 0, .int .i64 0, .int .i64 0, .slice a4 0 c4, .bool false, .int .i64 0, .int .i64 0, .int .i64 0, .slice a5 0 c5, .bool false]] w fun e w' => ∃ v, e = .returned v ∧ OwnE w.heap.size t.L v w' ∧ Below w.heap.size w w' := by
  have HC := Lib.hid (fun (w' : World) (hb : Below w.heap.size w w') => cloneE_anyY t.L a3 t.L.length c3 w' (h.2.2.1.below hb) hn)
  clear h hn
  go_enter Tryz.func46, Tryz.ntmps46
  go_upto_region 1 with (fail)
  refine wp_genW (fun w1 => RowAt w.heap.size #[.int .i64 4, .int .i64 t.S, .int .i64 0, .int .u64 0, .int .i64 0, .int .i64 0, .bool false, .int .i64 0, .int .i64 0, .int .u64 0, .slice a1 0 c1, .bool false, .int .i64 0, .int .u64 0, .slice a2 0 c2, .int .i64 t.S, .int .i64 t.T, .slice a3 t.L.length c3, .bool t.s, .int .i64 0, .int .i64 0, .int .i64 0, .slice a4 0 c4, .bool false, .int .i64 0, .int .i64 0, .int .i64 0, .slice a5 0 c5, .bool false] w1 ∧ Below w.heap.size w w1) ⟨RowAt.new _ _ _, b1 _⟩ ?_
  rintro w1 ⟨r1, hb⟩
  have R1 := Lib.hid r1
  have B1 := Lib.hid hb
  clear r1 hb
  go_wp2_with (first
    | (refine ldi (v := .int .i64 4) rfl rfl rfl R1.out rfl ?_)
    | (refine ldle (v := .slice a3 t.L.length c3) rfl rfl rfl R1.out rfl ?_)
    | (go_at_call 89; (with_reducible refine (HC.out _ B1.out).mono ?_); rintro e w2 ⟨v, rfl, ho, hb2⟩; have O2 := Lib.hid ho; have B2 := Lib.hid (bgo B1.out hb2); clear ho hb2))
  go_ret
  exact ⟨_, rfl, O2.out.mono B1.out.size, B2.out⟩
/-- What a round holds. -/
def BcR (W : World) (B : Nat) (K : Int) (L : List Ent) (v : Value) (A : Array Value) (i : Nat) (w : World) : Prop := OwnE B (mixE K L i) v w ∧ RowAt W.heap.size A w ∧ Below W.heap.size W w ∧ W.heap.size < B ∧ B ≤ w.heap.size
set_option maxRecDepth 100000 in
set_option maxHeartbeats 4000000 in
theorem bc_frq (f : FQ) (a1 : Option Addr) (c1 : Nat) (a2 : Option Addr) (c2 : Nat) (a3 : Option Addr) (c3 : Nat) (a4 : Option Addr) (c4 : Nat) (a5 : Option Addr) (c5 : Nat) (w : World) (h : RowsK (fmQ f) (.slice a1 0 c1) (.slice a2 0 c2) (.slice a3 0 c3) (.slice a4 f.L.length c4) (.slice a5 0 c5) w) (hn : f.L.length ≤ 12) (hK : -9223372036854775808 ≤ f.K ∧ f.K ≤ 9223372036854775807) :
    Calls Tryz.prog 46 #[.agg #[.int .i64 5, .int .i64 f.S, .int .i64 0, .int .u64 0, .int .i64 0, .int .i64 0, .bool false, .int .i64 0, .int .i64 0, .int .u64 0, .slice a1 0 c1, .bool false, .int .i64 0, .int .u64 0, .slice a2 0 c2, .int .i64 0, .int .i64 0, .slice a3 0 c3, .bool false, .int .i64 f.S, .int .i64 f.T, .int .i64 f.K, .slice a4 f.L.length c4, .bool f.s, .int .i64 0, .int .i64 0, .int .i64 0, .slice a5 0 c5, .bool false]] w fun e w' => ∃ v, e = .returned v ∧ OwnE w.heap.size (sortE (f.L.map (setE f.K))) v w' ∧ Below w.heap.size w w' := by
  have HC := Lib.hid (fun (w' : World) (hb : Below w.heap.size w w') => cloneE_anyY f.L a4 f.L.length c4 w' (h.2.2.2.1.below hb) (by omega))
  have HN := Lib.hid hn
  have HKb := Lib.hid hK
  clear h hn hK
  go_enter Tryz.func46, Tryz.ntmps46
  go_upto_region 1 with (fail)
  refine wp_genW (fun w1 => RowAt w.heap.size #[.int .i64 5, .int .i64 f.S, .int .i64 0, .int .u64 0, .int .i64 0, .int .i64 0, .bool false, .int .i64 0, .int .i64 0, .int .u64 0, .slice a1 0 c1, .bool false, .int .i64 0, .int .u64 0, .slice a2 0 c2, .int .i64 0, .int .i64 0, .slice a3 0 c3, .bool false, .int .i64 f.S, .int .i64 f.T, .int .i64 f.K, .slice a4 f.L.length c4, .bool f.s, .int .i64 0, .int .i64 0, .int .i64 0, .slice a5 0 c5, .bool false] w1 ∧ Below w.heap.size w w1) ⟨RowAt.new _ _ _, b1 _⟩ ?_
  rintro w1 ⟨r1, hb⟩
  have R1 := Lib.hid r1
  have B1 := Lib.hid hb
  clear r1 hb
  go_wp2_with (first
    | (refine ldi (v := .int .i64 5) rfl rfl rfl R1.out rfl ?_)
    | (refine ldle (v := .slice a4 f.L.length c4) rfl rfl rfl R1.out rfl ?_)
    | (go_at_call 89; (with_reducible refine (HC.out _ B1.out).mono ?_); rintro e w2 ⟨v, rfl, ho, hb2⟩; obtain ⟨a, cap, rfl⟩ := ho.rd.shape; have HR : Hid (BcR w w1.heap.size f.K f.L (.slice a f.L.length cap) #[.int .i64 5, .int .i64 f.S, .int .i64 0, .int .u64 0, .int .i64 0, .int .i64 0, .bool false, .int .i64 0, .int .i64 0, .int .u64 0, .slice a1 0 c1, .bool false, .int .i64 0, .int .u64 0, .slice a2 0 c2, .int .i64 0, .int .i64 0, .slice a3 0 c3, .bool false, .int .i64 f.S, .int .i64 f.T, .int .i64 f.K, .slice a4 f.L.length c4, .bool f.s, .int .i64 0, .int .i64 0, .int .i64 0, .slice a5 0 c5, .bool false] 0 w2) := Lib.hid ⟨by rw [mixE_zero]; exact ho, R1.out.go hb2, bgo B1.out hb2, R1.out.lt, hb2.size⟩; clear ho hb2))
  go_loopw [4, 19] (fun _ i wr => ∃ j : Nat, j ≤ f.L.length ∧ i = .int .i64 (j : Int) ∧ Hid (BcR w w1.heap.size f.K f.L (.slice a f.L.length cap) #[.int .i64 5, .int .i64 f.S, .int .i64 0, .int .u64 0, .int .i64 0, .int .i64 0, .bool false, .int .i64 0, .int .i64 0, .int .u64 0, .slice a1 0 c1, .bool false, .int .i64 0, .int .u64 0, .slice a2 0 c2, .int .i64 0, .int .i64 0, .slice a3 0 c3, .bool false, .int .i64 f.S, .int .i64 f.T, .int .i64 f.K, .slice a4 f.L.length c4, .bool f.s, .int .i64 0, .int .i64 0, .int .i64 0, .slice a5 0 c5, .bool false] j wr)) (fun _ i _ => f.L.length - (intOf i).toNat)
  case atStart => exact ⟨0, by omega, rfl, HR⟩
  case round =>
    clear HR
    obtain ⟨j, hj, rfl, HR⟩ := hrel
    obtain ⟨ho, hr, hb, hg, hs⟩ := HR.out
    by_cases hlt : j < f.L.length
    · have ho' := ho
      have hml := mixE_len f.K f.L j
      obtain ⟨g, rfl, hg1, hg2, hnn, hcap, hcm⟩ := ho.block (by omega)
      clear hnn hcm
      rw [← hml] at ho
      have hst := Lib.hid (ho.storedErr (j := j) (by omega) HKb.out)
      have hfz := Lib.hid (ho.frozen (j * 3 + 2))
      obtain ⟨d0, d1, d2⟩ := ho.cellsAt (j := j) (by omega)
      have HR1 := Lib.hid hr
      have HB1 := Lib.hid hb
      have HG := Lib.hid hg
      have HS := Lib.hid hs
      have HG1 := Lib.hid hg1
      have HM := Lib.hid (mixE_succ f.K f.L hlt)
      have HA := Lib.hid (mixE_at f.K f.L j)
      have HL := Lib.hid hml
      have hj12 : (j : Int) < 12 := by have := HN.out; omega
      have hlt2 : (j : Int) < (f.L.length : Int) := by omega
      have hfz' := hfz.out
      clear ho ho' hr hb hg hs hml HR d0 d1 hcap
      go_wp2_with (refine ldi (v := .int .i64 f.K) rfl rfl rfl HR1.out rfl ?_)
      have hnew := hst.out
      rw [HA.out, HM.out, HL.out] at hnew
      have HF5 : Hid (BcR w w1.heap.size f.K f.L (.slice (some ⟨g, 0, none⟩) f.L.length cap) #[.int .i64 5, .int .i64 f.S, .int .i64 0, .int .u64 0, .int .i64 0, .int .i64 0, .bool false, .int .i64 0, .int .i64 0, .int .u64 0, .slice a1 0 c1, .bool false, .int .i64 0, .int .u64 0, .slice a2 0 c2, .int .i64 0, .int .i64 0, .slice a3 0 c3, .bool false, .int .i64 f.S, .int .i64 f.T, .int .i64 f.K, .slice a4 f.L.length c4, .bool f.s, .int .i64 0, .int .i64 0, .int .i64 0, .slice a5 0 c5, .bool false] (j + 1) (wr.setCell ⟨g, j * 3 + 2, none⟩ (.int .i64 f.K))) := Lib.hid ⟨hnew, HR1.out.oth (oth_cell g _ _ _) (by have := HG.out; have := HG1.out; omega), bset HB1.out _ _ _ (by have := HG.out; have := HG1.out; omega), HG.out, by have := HS.out; simpa using this⟩
      clear hnew
      go_roundw
      case rel => exact ⟨j + 1, by omega, by go_num, HF5⟩
      case measure => simp [intOf]; omega
    · obtain rfl : j = f.L.length := by omega
      have hml := mixE_len f.K f.L f.L.length
      have HS := Lib.hid (sortV_anyY (mixE f.K f.L f.L.length) w1.heap.size a f.L.length cap wr ho (by have := HN.out; omega) hs)
      have HB1 := Lib.hid hb
      have HG := Lib.hid hg
      clear ho hr hb hg hs hml HR
      go_wp2_with (go_at_call 90; (with_reducible refine HS.out.mono ?_); rintro e w4 ⟨rfl, ho4, hb4⟩; have O4 := Lib.hid ho4; have B4 := Lib.hid (HB1.out.trans (hb4.mono (Nat.le_of_lt HG.out))); clear ho4 hb4)
      go_ret
      refine ⟨_, rfl, ?_, B4.out⟩
      have := O4.out
      rw [mixE_all] at this
      exact this.mono (Nat.le_of_lt HG.out)
end Go.Proofs.YtjibbnknliamkaaGreatDoor
namespace Go.Proofs.YtjibbnknliamkaaGreatDoor
open Go.RowKit
set_option linter.unusedVariables false
set_option linter.unusedSimpArgs false
set_option maxRecDepth 100000 in
set_option maxHeartbeats 2000000 in
theorem rvl_k1 (s : SK) (a1 : Option Addr) (n1 c1 : Nat) (a2 : Option Addr) (n2 c2 : Nat) (a3 : Option Addr) (n3 c3 : Nat) (a4 : Option Addr) (n4 c4 : Nat) (a5 : Option Addr) (n5 c5 : Nat) (w : World) (E U : Bool) (F : Int) (hF : F = valT s.tT s.tI) (hp : prmE 1 s.S s.D s.x = 0)
    (HV : ∀ w' : World, Calls Tryz.prog 48 #[.agg #[.int .i64 1, .int .i64 s.S, .int .i64 s.D, .int .u64 s.x]] w' fun e w2 => e = .returned (.int .i64 0) ∧ Below w'.heap.size w' w2)
    (HF : ∀ w' : World, Below w.heap.size w w' → Calls Tryz.prog 74 #[.agg #[.int .i64 s.tT, .int .i64 s.tI, .bool s.tF]] w' fun e w2 => e = .returned (.int .i64 0) ∧ Below w'.heap.size w' w2)
    (HO : ∀ w' : World, Calls Tryz.prog 81 #[.agg #[.int .i64 1, .int .i64 s.S, .int .i64 s.D, .int .u64 s.x, .int .i64 s.tT, .int .i64 s.tI, .bool s.tF, .int .i64 s.c.D, .int .i64 s.c.S, .int .u64 s.c.x, .slice a1 n1 c1, .bool s.c.s, .int .i64 s.l.P, .int .u64 s.l.x, .slice a2 n2 c2, .int .i64 s.t.S, .int .i64 s.t.T, .slice a3 n3 c3, .bool s.t.s, .int .i64 s.f.S, .int .i64 s.f.T, .int .i64 s.f.K, .slice a4 n4 c4, .bool s.f.s, .int .i64 s.r.S, .int .i64 s.r.T, .int .i64 s.r.K, .slice a5 n5 c5, .bool s.r.s]] w' fun e w2 => e = .returned (.agg #[.int .i64 1, .int .i64 s.S, .int .i64 s.D, .int .u64 s.x, .int .i64 s.tT, .int .i64 s.tI, .bool s.tF, .int .i64 0, .int .i64 0, .int .u64 0, .slice none 0 0, .bool false, .int .i64 0, .int .u64 0, .slice none 0 0, .int .i64 0, .int .i64 0, .slice none 0 0, .bool false, .int .i64 0, .int .i64 0, .int .i64 0, .slice none 0 0, .bool false, .int .i64 0, .int .i64 0, .int .i64 0, .slice none 0 0, .bool false]) ∧ Below w'.heap.size w' w2)
    (HS : ∀ w' : World, Below w.heap.size w w' → Calls Tryz.prog 80 #[.agg #[.int .i64 1, .int .i64 s.S, .int .i64 s.D, .int .u64 s.x, .int .i64 s.tT, .int .i64 s.tI, .bool s.tF, .int .i64 s.c.D, .int .i64 s.c.S, .int .u64 s.c.x, .slice a1 n1 c1, .bool s.c.s, .int .i64 s.l.P, .int .u64 s.l.x, .slice a2 n2 c2, .int .i64 s.t.S, .int .i64 s.t.T, .slice a3 n3 c3, .bool s.t.s, .int .i64 s.f.S, .int .i64 s.f.T, .int .i64 s.f.K, .slice a4 n4 c4, .bool s.f.s, .int .i64 s.r.S, .int .i64 s.r.T, .int .i64 s.r.K, .slice a5 n5 c5, .bool s.r.s], .agg #[.int .i64 1, .int .i64 s.S, .int .i64 s.D, .int .u64 s.x, .int .i64 s.tT, .int .i64 s.tI, .bool s.tF, .int .i64 0, .int .i64 0, .int .u64 0, .slice none 0 0, .bool false, .int .i64 0, .int .u64 0, .slice none 0 0, .int .i64 0, .int .i64 0, .slice none 0 0, .bool false, .int .i64 0, .int .i64 0, .int .i64 0, .slice none 0 0, .bool false, .int .i64 0, .int .i64 0, .int .i64 0, .slice none 0 0, .bool false]] w' fun e w2 => e = .returned (.bool U) ∧ Below w'.heap.size w' w2) :
    Calls Tryz.prog 37 #[.agg #[.int .i64 1, .int .i64 s.S, .int .i64 s.D, .int .u64 s.x, .int .i64 s.tT, .int .i64 s.tI, .bool s.tF, .int .i64 s.c.D, .int .i64 s.c.S, .int .u64 s.c.x, .slice a1 n1 c1, .bool s.c.s, .int .i64 s.l.P, .int .u64 s.l.x, .slice a2 n2 c2, .int .i64 s.t.S, .int .i64 s.t.T, .slice a3 n3 c3, .bool s.t.s, .int .i64 s.f.S, .int .i64 s.f.T, .int .i64 s.f.K, .slice a4 n4 c4, .bool s.f.s, .int .i64 s.r.S, .int .i64 s.r.T, .int .i64 s.r.K, .slice a5 n5 c5, .bool s.r.s]] w fun e w' => e = .returned (.int .i64 (if U = true then 0 else 18)) ∧ Below w.heap.size w w' := by
  have HV' := Lib.hid HV
  have HF' := Lib.hid HF
  have HO' := Lib.hid HO
  have HS' := Lib.hid HS
  clear HV HF HO HS hF hp
  go_enter Tryz.func37, Tryz.ntmps37
  go_upto_region 1 with (fail)
  refine wp_genW (fun w1 => RowAt w.heap.size #[.int .i64 1, .int .i64 s.S, .int .i64 s.D, .int .u64 s.x, .int .i64 s.tT, .int .i64 s.tI, .bool s.tF, .int .i64 s.c.D, .int .i64 s.c.S, .int .u64 s.c.x, .slice a1 n1 c1, .bool s.c.s, .int .i64 s.l.P, .int .u64 s.l.x, .slice a2 n2 c2, .int .i64 s.t.S, .int .i64 s.t.T, .slice a3 n3 c3, .bool s.t.s, .int .i64 s.f.S, .int .i64 s.f.T, .int .i64 s.f.K, .slice a4 n4 c4, .bool s.f.s, .int .i64 s.r.S, .int .i64 s.r.T, .int .i64 s.r.K, .slice a5 n5 c5, .bool s.r.s] w1 ∧ Below w.heap.size w w1) ⟨RowAt.new _ _ _, b1 _⟩ ?_
  rintro w1 ⟨r1, hb⟩
  have R1 := Lib.hid r1
  have B1 := Lib.hid hb
  clear r1 hb
  go_upto_region 4 with (first
    | (refine ldPm (B := #[.int .i64 1, .int .i64 s.S, .int .i64 s.D, .int .u64 s.x]) rfl rfl rfl R1.out rfl (by kernel_rfl) ?_)
    | (go_at_call 48; (with_reducible refine (HV'.out _).mono ?_); rintro e w2 ⟨rfl, hb2⟩; have R2 := Lib.hid (R1.out.go hb2); have B2 := Lib.hid (bgo B1.out hb2); clear hb2 R1 B1))
  have c0 := R2.out.cell (j := 0) (v := .int .i64 1) rfl
  have c1' := R2.out.cell (j := 1) (v := .int .i64 s.S) rfl
  have c2' := R2.out.cell (j := 2) (v := .int .i64 s.D) rfl
  have c3' := R2.out.cell (j := 3) (v := .int .u64 s.x) rfl
  have lt := R2.out.lt
  go_region
  rename_i K hK
  clear c0 c1' c2' c3'
  refine hK _ _ ?_
  clear hK
  refine wp_genW (fun w3 => RowAt w.heap.size #[.int .i64 1, .int .i64 s.S, .int .i64 s.D, .int .u64 s.x, .int .i64 s.tT, .int .i64 s.tI, .bool s.tF, .int .i64 s.c.D, .int .i64 s.c.S, .int .u64 s.c.x, .slice a1 n1 c1, .bool s.c.s, .int .i64 s.l.P, .int .u64 s.l.x, .slice a2 n2 c2, .int .i64 s.t.S, .int .i64 s.t.T, .slice a3 n3 c3, .bool s.t.s, .int .i64 s.f.S, .int .i64 s.f.T, .int .i64 s.f.K, .slice a4 n4 c4, .bool s.f.s, .int .i64 s.r.S, .int .i64 s.r.T, .int .i64 s.r.K, .slice a5 n5 c5, .bool s.r.s] w3 ∧ RowAt w2.heap.size #[.int .i64 1, .int .i64 s.S, .int .i64 s.D, .int .u64 s.x] w3 ∧ Below w2.heap.size w2 w3) ⟨R2.out.al _, RowAt.new w2 _ _, below_drew (b1 _)⟩ ?_
  rintro w3 ⟨r3, p3, hb3⟩
  have R3 := Lib.hid r3
  have P3 := Lib.hid p3
  have B3 := Lib.hid (bgo B2.out hb3)
  clear r3 p3 hb3 B2 lt R2
  go_upto_region 25 with (first
    | (refine ldi (v := .int .i64 1) rfl rfl rfl P3.out rfl ?_)
    | (refine ldTa (B := #[.int .i64 s.tT, .int .i64 s.tI, .bool s.tF]) rfl rfl rfl R3.out rfl (by kernel_rfl) ?_)
    | (go_at_call 74; (with_reducible refine (HF'.out _ B3.out).mono ?_); rintro e w4 ⟨rfl, hb4⟩; have R4 := Lib.hid (R3.out.go hb4); have P4 := Lib.hid (P3.out.go hb4); have B4 := Lib.hid (bgo B3.out hb4); clear hb4 R3 P3 B3))
  rename_i K hK
  refine wp_region_quiet (C := fun w' => Below w4.heap.size w4 w') (by kernel_rfl) (by kernel_rfl) ⟨rfl, rfl, rfl, Nat.le_refl _, fun _ _ => rfl⟩ ?_
  refine wpQuiet_do (v := .agg #[.int .i64 1, .int .i64 s.S, .int .i64 s.D, .int .u64 s.x]) rfl (fun w' hc => quiet_value (run_part rfl rfl (P4.out.go hc) Tryz.underlying32 rfl infPm rfl)) ?_
  try simp only [Act.put, List.getElem_toArray, List.getElem_cons_zero, List.getElem_cons_succ, List.setIfInBounds_toArray, List.set_cons_zero, List.set_cons_succ]
  refine wpQuiet_do (v := .pointer (some ⟨w.heap.size, 0, none⟩)) rfl (fun w' hc => quiet_value (faSk0 rfl rfl)) ?_
  try simp only [Act.put, List.getElem_toArray, List.getElem_cons_zero, List.getElem_cons_succ, List.setIfInBounds_toArray, List.set_cons_zero, List.set_cons_succ]
  refine wpQuiet_do (v := .agg #[.int .i64 1, .int .i64 s.S, .int .i64 s.D, .int .u64 s.x]) rfl (fun w' hc => quiet_value (run_part rfl rfl (R4.out.go hc) Tryz.underlying32 rfl infPm (by kernel_rfl))) ?_
  try simp only [Act.put, List.getElem_toArray, List.getElem_cons_zero, List.getElem_cons_succ, List.setIfInBounds_toArray, List.set_cons_zero, List.set_cons_succ]
  refine wpQuiet_do (v := .bool false) rfl (fun w' hc => quiet_value ((neqPm rfl rfl rfl).trans (by simp))) ?_
  try simp only [Act.put, List.getElem_toArray, List.getElem_cons_zero, List.getElem_cons_succ, List.setIfInBounds_toArray, List.set_cons_zero, List.set_cons_succ]
  refine wpQuiet_do (v := .bool false) rfl (fun w' hc => quiet_value (run_mv rfl rfl)) ?_
  try simp only [Act.put, List.getElem_toArray, List.getElem_cons_zero, List.getElem_cons_succ, List.setIfInBounds_toArray, List.set_cons_zero, List.set_cons_succ]
  refine wpQuiet_if (p := true) (v := .agg #[.int .i64 1, .int .i64 s.S, .int .i64 s.D, .int .u64 s.x, .int .i64 s.tT, .int .i64 s.tI, .bool s.tF, .int .i64 s.c.D, .int .i64 s.c.S, .int .u64 s.c.x, .slice a1 n1 c1, .bool s.c.s, .int .i64 s.l.P, .int .u64 s.l.x, .slice a2 n2 c2, .int .i64 s.t.S, .int .i64 s.t.T, .slice a3 n3 c3, .bool s.t.s, .int .i64 s.f.S, .int .i64 s.f.T, .int .i64 s.f.K, .slice a4 n4 c4, .bool s.f.s, .int .i64 s.r.S, .int .i64 s.r.T, .int .i64 s.r.K, .slice a5 n5 c5, .bool s.r.s]) rfl (fun _ w' hc => quiet_value (run_part rfl rfl (R4.out.go hc) Tryz.underlying48 rfl infSk (by kernel_rfl))) ?_
  try simp only [Act.put, List.getElem_toArray, List.getElem_cons_zero, List.getElem_cons_succ, List.setIfInBounds_toArray, List.set_cons_zero, List.set_cons_succ]
  refine wpQuiet_if (p := true) (v := .agg #[.int .i64 1, .int .i64 s.S, .int .i64 s.D, .int .u64 s.x, .int .i64 s.tT, .int .i64 s.tI, .bool s.tF, .int .i64 s.c.D, .int .i64 s.c.S, .int .u64 s.c.x, .slice a1 n1 c1, .bool s.c.s, .int .i64 s.l.P, .int .u64 s.l.x, .slice a2 n2 c2, .int .i64 s.t.S, .int .i64 s.t.T, .slice a3 n3 c3, .bool s.t.s, .int .i64 s.f.S, .int .i64 s.f.T, .int .i64 s.f.K, .slice a4 n4 c4, .bool s.f.s, .int .i64 s.r.S, .int .i64 s.r.T, .int .i64 s.r.K, .slice a5 n5 c5, .bool s.r.s]) rfl (fun _ w' hc => quiet_value (run_part rfl rfl (R4.out.go hc) Tryz.underlying48 rfl infSk (by kernel_rfl))) ?_
  try simp only [Act.put, List.getElem_toArray, List.getElem_cons_zero, List.getElem_cons_succ, List.setIfInBounds_toArray, List.set_cons_zero, List.set_cons_succ]
  refine wpQuiet_if (p := true) (v := .agg #[.int .i64 1, .int .i64 s.S, .int .i64 s.D, .int .u64 s.x, .int .i64 s.tT, .int .i64 s.tI, .bool s.tF, .int .i64 0, .int .i64 0, .int .u64 0, .slice none 0 0, .bool false, .int .i64 0, .int .u64 0, .slice none 0 0, .int .i64 0, .int .i64 0, .slice none 0 0, .bool false, .int .i64 0, .int .i64 0, .int .i64 0, .slice none 0 0, .bool false, .int .i64 0, .int .i64 0, .int .i64 0, .slice none 0 0, .bool false]) rfl (fun _ w' hc => quiet_enter (run_call1 (Go.Proofs.enters_of Tryz.func81 (by kernel_rfl) rfl) rfl rfl) ((HO'.out w').mono (fun e w'' h => ⟨h.1, bgo hc h.2⟩))) ?_
  try simp only [Act.put, List.getElem_toArray, List.getElem_cons_zero, List.getElem_cons_succ, List.setIfInBounds_toArray, List.set_cons_zero, List.set_cons_succ]
  refine wpQuiet_if (p := true) (v := .bool U) rfl (fun _ w' hc => quiet_enter (run_call2 (Go.Proofs.enters_of Tryz.func80 (by kernel_rfl) rfl) rfl rfl rfl) ((HS'.out w' (bgo B4.out hc)).mono (fun e w'' h => ⟨h.1, bgo hc h.2⟩))) ?_
  try simp only [Act.put, List.getElem_toArray, List.getElem_cons_zero, List.getElem_cons_succ, List.setIfInBounds_toArray, List.set_cons_zero, List.set_cons_succ]
  refine wpQuiet_if (p := true) (v := .bool (!U)) rfl (fun _ w' hc => quiet_value (not_b rfl rfl)) ?_
  try simp only [Act.put, List.getElem_toArray, List.getElem_cons_zero, List.getElem_cons_succ, List.setIfInBounds_toArray, List.set_cons_zero, List.set_cons_succ]
  refine wpQuiet_do (v := .bool (!U)) rfl (fun w' hc => quiet_value (run_pkF rfl rfl rfl)) ?_
  try simp only [Act.put, List.getElem_toArray, List.getElem_cons_zero, List.getElem_cons_succ, List.setIfInBounds_toArray, List.set_cons_zero, List.set_cons_succ]
  refine wpQuiet_nil ?_
  intro w5 hw5
  have B5 := Lib.hid (bgo B4.out hw5)
  refine hK _ _ ?_
  clear hK hw5 R4 P4 B4
  try simp only [Act.put, List.getElem_toArray, List.getElem_cons_zero, List.getElem_cons_succ, List.setIfInBounds_toArray, List.set_cons_zero, List.set_cons_succ]
  cases U
  all_goals
    go_wp2
    go_ret
    exact ⟨rfl, B5.out⟩
end Go.Proofs.YtjibbnknliamkaaGreatDoor
namespace Go.Proofs.YtjibbnknliamkaaGreatDoor
open Go.RowKit
set_option linter.unusedVariables false
set_option linter.unusedSimpArgs false
theorem RdK.run {s : SK} {v : Value} {w : World} (h : RdK s v w) : ∃ a1 c1 a2 c2 a3 c3 a4 c4 a5 c5, v = .agg (skA s (.slice a1 s.c.L.length c1) (.slice a2 s.l.L.length c2) (.slice a3 s.t.L.length c3) (.slice a4 s.f.L.length c4) (.slice a5 s.r.L.length c5)) ∧ RowsK s (.slice a1 s.c.L.length c1) (.slice a2 s.l.L.length c2) (.slice a3 s.t.L.length c3) (.slice a4 s.f.L.length c4) (.slice a5 s.r.L.length c5) w := by
  obtain ⟨a1, n1, c1, a2, n2, c2, a3, n3, c3, a4, n4, c4, a5, n5, c5, hv, hr⟩ := h
  obtain ⟨_, _, e1⟩ := hr.1.shape
  obtain ⟨_, _, e2⟩ := hr.2.1.shape
  obtain ⟨_, _, e3⟩ := hr.2.2.1.shape
  obtain ⟨_, _, e4⟩ := hr.2.2.2.1.shape
  obtain ⟨_, _, e5⟩ := hr.2.2.2.2.shape
  simp only [Value.slice.injEq] at e1 e2 e3 e4 e5
  obtain ⟨rfl, rfl, rfl⟩ := e1
  obtain ⟨rfl, rfl, rfl⟩ := e2
  obtain ⟨rfl, rfl, rfl⟩ := e3
  obtain ⟨rfl, rfl, rfl⟩ := e4
  obtain ⟨rfl, rfl, rfl⟩ := e5
  exact ⟨_, _, _, _, _, _, _, _, _, _, hv, hr⟩
theorem results_cell_tmp2 {fn : Func} {p u z : Tmp} {ty : TypeId} (h : fn.results = #[.cell p ty, .tmp u, .tmp z]) (tmps : Array Value) (P : Program) (w : World) :
    (results fn tmps).run P w =
      ((asAddr (tmps.getD p undef)).run P w).andThen fun a w₁ => ((loadVar ty a).run P w₁).andThen fun v w₂ => .ok (.tuple #[v, tmps.getD u undef, tmps.getD z undef]) w₂ := by
  simp only [results, h]
  simp [Sem.run_bind, Result.andThen]
theorem ret_row3 {P : Program} {a : Act} {w : World} {fn : Func} {R : Ending → World → Prop} {p u z : Tmp} {T : TypeId} (h : fn.results = #[.cell p T, .tmp u, .tmp z]) {g : Nat} {A : Array Value} {x y : Value} (hp : a.tmps.getD p undef = .pointer (some ⟨g, 0, none⟩)) (hx : a.tmps.getD u undef = x) (hy : a.tmps.getD z undef = y) (hd : a.defers = []) (hc : RowAt g A w) {d : TypeDesc} (hu : P.underlying T = some d) (hr : d.isRow = true) (hi : (P.info? T).map (·.size) = some A.size) (hR : R (.returned (.tuple #[.agg A, x, y])) w) : bodyPost P fn R .ret a w := by
  obtain ⟨t, ht⟩ := hc
  refine bodyPost_ret (v := .tuple #[.agg A, x, y]) ?_ hd hR
  have hl := run_loadVar_row (P := P) w g t T A (0, 0) d ht hu (by cases d <;> simp_all) hi
  rw [results_cell_tmp2 h, hp, hx, hy]
  simp only [asAddr, Sem.run_pure, Result.andThen_ok, hl]
end Go.Proofs.YtjibbnknliamkaaGreatDoor
namespace Go.Proofs.YtjibbnknliamkaaGreatDoor
open Go.RowKit
set_option linter.unusedVariables false
set_option linter.unusedSimpArgs false
theorem nu_tally : nuK 1 0 0 0 = ⟨1, 0, 0, 0, 0, 0, false, CM.none, LL.none, TP.none, FQ.none, RK.none⟩ := by rw [nu_em (by decide)]; rfl
end Go.Proofs.YtjibbnknliamkaaGreatDoor
