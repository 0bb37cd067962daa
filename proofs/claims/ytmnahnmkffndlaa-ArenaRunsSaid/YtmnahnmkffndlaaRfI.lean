/- The reference's index, Data and SamePages of pages. -/
import Derived.Test.YtmnahnmkffndlaaPmK
import Derived.RegionTactic
import Derived.Deep.RegionWith
import Derived.Deep.CutRange
import Derived.Deep.QuietTactic
import Derived.BigQuiet
import Derived.Laws.ResultCell
namespace Go.Proofs.Ytmnahnmkffndlaa
open Go.RowKit Go.Maps
set_option linter.unusedVariables false
set_option linter.unusedSimpArgs false
/-- Where a number's page stands. -/
def Pos (L : List Pg) (k : Int) (i : Int) : Prop := (i = -1 ∧ lookP L k = none) ∨ ∃ j : Nat, j < L.length ∧ i = (j : Int) ∧ lookP L k = some (L.getD j Pg.z)
theorem look_none_of {L : List Pg} {k : Int} (h : ∀ q, q < L.length → (L.getD q Pg.z).n ≠ k) : lookP L k = none := by
  unfold lookP
  refine List.find?_eq_none.2 fun p hp => ?_
  obtain ⟨q, hq, rfl⟩ := List.mem_iff_getElem.1 hp
  have := h q hq
  simpa [List.getD, hq] using this
theorem look_at {L : List Pg} {m : Int} (ha : AscP m L) {j : Nat} (hj : j < L.length) {k : Int} (h : (L.getD j Pg.z).n = k) : lookP L k = some (L.getD j Pg.z) := by
  subst h
  exact look_mem ha (by simp [List.getD, hj])
set_option maxRecDepth 100000 in
set_option maxHeartbeats 1000000 in
theorem index_any (M : List PM) (L : List Pg) (c k m : Int) (v : Value) (w : World) (hv : OwnPM 0 M v w) (hp : PmAt 0 M L w) (ha : AscP m L) (hL : L.length ≤ 1000000) :
    Calls Try.prog 23 #[.agg #[.int .i64 c, v], .int .i64 k] w fun e w' => ∃ i, e = .returned (.int .i64 i) ∧ Pos L k i ∧ Below w.heap.size w w' := by
  obtain ⟨a, cap, rfl⟩ := hv.rd.shape
  have hlen := hp.len
  have HV := Lib.hid hv
  have HP := Lib.hid hp
  have HA := Lib.hid ha
  clear hv hp ha
  rw [hlen]
  go_enter Try.func23, Try.ntmps23
  go_wp2
  go_loopw [5] (fun i wr => ∃ q : Nat, q ≤ L.length ∧ i = .int .i64 (q : Int) ∧ Hid (∀ x, x < q → (L.getD x Pg.z).n ≠ k) ∧ Hid (Below w.heap.size w wr ∧ RowAt w.heap.size #[.int .i64 c, .slice a L.length cap] wr)) (fun i _ => L.length - (intOf i).toNat)
  case atStart => exact ⟨0, by omega, rfl, Lib.hid (fun x hx => by omega), Lib.hid ⟨b1 _, RowAt.new _ _ _⟩⟩
  case round =>
    obtain ⟨q, hq, rfl, HN, HB⟩ := hrel
    have r1 := HB.out.2.cell (j := 1) rfl
    have lt1 := HB.out.2.lt
    by_cases hlt : q < L.length
    · have hqi : (q : Int) < (L.length : Int) := by omega
      have h1 := HV.out.below HB.out.1
      obtain ⟨-, a', cap', he, -, -, hcell⟩ := h1.rd
      simp only [Value.slice.injEq] at he
      obtain ⟨rfl, -, rfl⟩ := he
      obtain ⟨b, off, rfl, hbl, hc⟩ := hcell (by omega)
      obtain ⟨c0, -, -⟩ := hc q (by omega)
      have hn := (HP.out.at_ hlt).1
      rw [hn] at c0
      clear hc hcell h1 hn
      by_cases hk : (L.getD q Pg.z).n = k
      · have HF := Lib.hid (look_at HA.out hlt hk)
        rw [hk] at c0
        clear hk
        go_wp2
        go_ret
        exact ⟨_, rfl, .inr ⟨q, hlt, rfl, HF.out⟩, HB.out.1⟩
      · have HN2 : Hid (∀ x, x < q + 1 → (L.getD x Pg.z).n ≠ k) := Lib.hid (fun x hx => by
          rcases Nat.lt_or_ge x q with h | h
          · exact HN.out x h
          · obtain rfl : x = q := by omega
            exact hk)
        generalize (L.getD q Pg.z).n = x at *
        go_wp2
        go_roundw
        case rel => exact ⟨q + 1, by omega, by go_num, HN2, HB⟩
        case measure => simp [intOf]; omega
    · obtain rfl : q = L.length := by omega
      go_wp2
      go_ret
      exact ⟨_, rfl, .inl ⟨rfl, look_none_of HN.out⟩, HB.out.1⟩
theorem Pos.none {L : List Pg} {k i : Int} (h : Pos L k i) (hk : lookP L k = none) : i = -1 := by
  rcases h with ⟨h, _⟩ | ⟨j, _, _, h⟩
  · exact h
  · rw [hk] at h; cases h
theorem Pos.some {L : List Pg} {k i : Int} (h : Pos L k i) {p : Pg} (hk : lookP L k = some p) : ∃ j : Nat, j < L.length ∧ i = (j : Int) ∧ L.getD j Pg.z = p := by
  rcases h with ⟨_, h⟩ | ⟨j, h1, h2, h3⟩
  · rw [hk] at h; cases h
  · rw [hk] at h3
    exact ⟨j, h1, h2, (Option.some.inj h3).symm⟩
set_option maxRecDepth 100000 in
theorem rdata_none (M : List PM) (L : List Pg) (c k m : Int) (v : Value) (w : World) (hv : OwnPM 0 M v w) (hp : PmAt 0 M L w) (ha : AscP m L) (hL : L.length ≤ 1000000) (hk : lookP L k = none) :
    Calls Try.prog 16 #[.agg #[.int .i64 c, v], .int .i64 k] w fun e w' => e = .returned (.tuple #[.slice none 0 0, .int .i64 8]) ∧ Below w.heap.size w w' := by
  have hi := index_any M L c k m v (w.alloc (.cells #[.int .i64 c, v] 29)) (hv.alloc _) (hp.kpb (KpB.below (b1 _))) ha hL
  obtain ⟨a, cap, rfl⟩ := hv.rd.shape
  clear hv hp ha
  go_enter Try.func16, Try.ntmps16
  go_wp2_with (go_at_call 23; refine hi.mono ?_; rintro e w2 ⟨i, rfl, hpos, hb2⟩; obtain rfl := hpos.none hk; have B2 := Lib.hid (bgo (b1 _) hb2); clear hpos hb2)
  go_ret2
  exact ⟨rfl, B2.out⟩
set_option maxRecDepth 100000 in
theorem rdata_some (M : List PM) (L : List Pg) (c k m : Int) (v : Value) (w : World) (hv : OwnPM 0 M v w) (hp : PmAt 0 M L w) (ha : AscP m L) (hL : L.length ≤ 1000000) {p : Pg} (hk : lookP L k = some p) (hd : p.d.length ≤ 1000000000000) :
    Calls Try.prog 16 #[.agg #[.int .i64 c, v], .int .i64 k] w fun e w' => ∃ u, e = .returned (.tuple #[u, .int .i64 0]) ∧ Own w.heap.size p.d u w' ∧ Below w.heap.size w w' := by
  obtain ⟨a, cap, rfl⟩ := hv.rd.shape
  have hi := index_any M L c k m _ (w.alloc (.cells #[.int .i64 c, .slice a M.length cap] 29)) (hv.alloc _) (hp.kpb (KpB.below (b1 _))) ha hL
  have hlen := hp.len
  have HV := Lib.hid hv
  have HP := Lib.hid hp
  have HD := Lib.hid hd
  clear hv hp ha hd
  rw [hlen] at hi ⊢
  go_enter Try.func16, Try.ntmps16
  go_upto_region 4 with (go_at_call 23; refine hi.mono ?_; rintro e w2 ⟨i, rfl, hpos, hb2⟩; obtain ⟨j, hj, rfl, hgp⟩ := hpos.some hk; have R2 := Lib.hid ((RowAt.new w #[.int .i64 c, .slice a L.length cap] _).go hb2); have B2 := Lib.hid (bgo (b1 _) hb2); clear hpos hb2)
  have r1 := R2.out.cell (j := 1) rfl
  have lt1 := R2.out.lt
  obtain ⟨-, a', cap', he, -, -, hcell⟩ := (HV.out.below B2.out).rd
  simp only [Value.slice.injEq] at he
  obtain ⟨rfl, -, rfl⟩ := he
  obtain ⟨b, off, rfl, hbl, hc⟩ := hcell (by omega)
  obtain ⟨-, -, s2⟩ := hc j (by omega)
  obtain ⟨-, -, hs⟩ := (HP.out.kpb (KpB.below B2.out)).at_ hj
  rw [hgp] at hs
  have hji : (j : Int) < (L.length : Int) := by omega
  obtain ⟨a3, c3, he3⟩ := hs.shape
  rw [he3] at s2 hs
  have HS := Lib.hid hs
  clear hc hcell hs hi hgp he3 hk
  go_wp2_with (at_builtin; refine wp_app rfl _ _ _ rfl w2.heap.size [] p.d _ _ rfl rfl (Own.empty _ _) HS.out.rd.src (Nat.le_refl _) (by have := HD.out; simp; omega) ?_; intro v4 w4 o4 hb4; have O4 := Lib.hid o4; have B4 := Lib.hid (bgo B2.out hb4); clear o4 hb4)
  go_ret2
  exact ⟨_, rfl, (by have := O4.out; simpa using this.mono B2.out.size), B4.out⟩
end Go.Proofs.Ytmnahnmkffndlaa
