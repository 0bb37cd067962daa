/- The reference's RemovePin. -/
import Derived.Test.YtledpfdflcmlcaaPnR
namespace Go.Proofs.Ytledpfdflcmlcaa
open Go.RowKit
set_option linter.unusedVariables false
set_option linter.unusedSimpArgs false
theorem remP_snoc (c : Int) : ∀ (L : List Pn) (p : Pn), remP c (L ++ [p]) = if 0 < (decP c p).n then remP c L ++ [decP c p] else remP c L
  | [], p => by simp only [List.nil_append, remP]
  | q :: L, p => by
    simp only [List.cons_append, remP, remP_snoc c L p]
    by_cases h1 : 0 < (decP c q).n <;> by_cases h2 : 0 < (decP c p).n <;> simp [h1, h2]
theorem remF_snoc (c : Int) (L : List Pn) (p : Pn) : remF (L ++ [p]) c = (remF L c || p.m == c) := by simp [remF]
theorem remP_len (c : Int) : ∀ L : List Pn, (remP c L).length ≤ L.length
  | [] => Nat.le_refl _
  | p :: L => by
    have := remP_len c L
    unfold remP
    split <;> simp <;> omega
theorem OwnPn.one1 {x : Pn} (hx : x.ok) (w : World) (o : Obj) : OwnPn w.heap.size [x] (.slice (some ⟨w.heap.size + 1, 0, none⟩) 1 1) ((w.alloc o).alloc (.cells #[.int .i64 x.m, .int .i64 x.n] 38)) := by
  have h := OwnPn.one hx (w.alloc o)
  have e : (w.alloc o).heap.size = w.heap.size + 1 := by simp
  rw [e] at h
  exact h.mono (by omega)
/-- What has been kept of the first q pins. -/
def RmS (B q : Nat) (L : List Pn) (c : Int) (w wr : World) (o : Value) : Prop := OwnPn B (remP c (L.take q)) o wr ∧ Below w.heap.size w wr
set_option maxRecDepth 100000 in
set_option maxHeartbeats 1000000 in
theorem rremp_any (L : List Pn) (v : Value) (c : Int) (w : World) (hv : RdPn L v w) (hL : L.length ≤ 1000000) :
    Calls Try.prog 11 #[v, .int .i64 c] w fun e w' => ∃ u, e = .returned (.tuple #[u, .int .i64 (remE L c)]) ∧ OwnPn w.heap.size (remV L c) u w' ∧ Below w.heap.size w w' := by
  obtain ⟨a, cap, rfl⟩ := hv.shape
  have HV := Lib.hid hv
  have hval := rvalp_any L _ w hv (by omega)
  clear hv
  obtain ⟨z, hz⟩ : ∃ z, valN L = z := ⟨_, rfl⟩
  rw [hz] at hval
  by_cases hz0 : z = 0
  · subst hz0
    have HVD := Lib.hid ((vd_iff L).1 hz)
    have HZ := Lib.hid hz
    clear hz
    go_enter Try.func11, Try.ntmps11
    go_wp2_with (go_at_call 13; refine hval.mono ?_; rintro e w1 ⟨rfl, hb1⟩; have B1 := Lib.hid hb1; clear hb1 hval)
    go_loopw [7, 8, 9, 10] (fun o f i p wr => ∃ q : Nat, q ≤ L.length ∧ i = .int .i64 (q : Int) ∧ f = .bool (remF (L.take q) c) ∧ Hid (RmS w.heap.size q L c w wr o)) (fun _ _ i _ _ => L.length - (intOf i).toNat)
    case atStart => exact ⟨0, by omega, rfl, rfl, Lib.hid ⟨OwnPn.empty _ _, B1.out⟩⟩
    case round =>
      clear B1
      obtain ⟨q, hq, rfl, rfl, HI⟩ := hrel
      obtain ⟨ho, hb⟩ := HI.out
      obtain ⟨a5, c5, rfl⟩ := ho.rd.shape
      have HO := Lib.hid ho
      have HB := Lib.hid hb
      have HL5 := Lib.hid (remP_len c (L.take q))
      clear HI ho hb
      by_cases hlt : q < L.length
      · have hqi : (q : Int) < (L.length : Int) := by omega
        obtain ⟨b, off, rfl, hbl, c0, c1⟩ := (HV.out.below HB.out).at_ hlt
        have hbd := vd_at HVD.out q hlt
        have hok := (HV.out.1.at_ q)
        have HP : Hid (remP c (L.take (q + 1)) = if 0 < (decP c (L.getD q Pn.z)).n then remP c (L.take q) ++ [decP c (L.getD q Pn.z)] else remP c (L.take q)) := Lib.hid (by rw [pn_take hlt, remP_snoc])
        have HF : Hid (remF (L.take (q + 1)) c = (remF (L.take q) c || (L.getD q Pn.z).m == c)) := Lib.hid (by rw [pn_take hlt, remF_snoc])
        have hn1 := hbd.1
        have hn2 := hbd.2.1
        clear hbd
        generalize L.getD q Pn.z = p at *
        obtain ⟨m, n⟩ := p
        have c0 : _ = some (Value.int .i64 m) := c0
        have c1 : _ = some (Value.int .i64 n) := c1
        have hn1 : 1 ≤ n := hn1
        have hn2 : n ≤ 1024 := hn2
        obtain ⟨M, hM⟩ : ∃ M, remP c (L.take q) = M := ⟨_, rfl⟩
        obtain ⟨f, hf⟩ : ∃ f, remF (L.take q) c = f := ⟨_, rfl⟩
        rw [hM] at HO HP HL5
        rw [hf] at HF
        rw [hf, hM]
        have hokM : -9223372036854775808 ≤ m ∧ m ≤ 9223372036854775807 := hok.1
        have hlq : (L.take q).length ≤ q := by simp; omega
        have HL6 := Lib.hid (show M.length ≤ 1000000 by have := HL5.out; omega)
        clear hf hM hok hlq HL5
        by_cases hmc : m = c
        · subst hmc
          have hd : decP m ⟨m, n⟩ = ⟨m, n - 1⟩ := by unfold decP; rw [if_pos rfl]
          rw [hd] at HP
          have HF2 : Hid (remF (L.take (q + 1)) m = true) := Lib.hid (by rw [HF.out]; simp)
          by_cases hn : n = 1
          · subst hn
            have HP2 : Hid (remP m (L.take (q + 1)) = M) := Lib.hid (by rw [HP.out, if_neg (show ¬ (0 : Int) < 1 - 1 by decide)])
            clear HP HF hd
            go_wp2
            go_roundw
            case rel => exact ⟨q + 1, by omega, by go_num, by rw [HF2.out], Lib.hid ⟨by rw [HP2.out]; exact HO.out.alloc _, bal HB.out _⟩⟩
            case measure => simp [intOf]; omega
          · have HP2 : Hid (remP m (L.take (q + 1)) = M ++ [⟨m, n - 1⟩]) := Lib.hid (by rw [HP.out, if_pos (show 0 < n - 1 by omega)])
            have hx : Hid (Pn.ok ⟨m, n - 1⟩) := Lib.hid ⟨hokM, by show -9223372036854775808 ≤ n - 1 ∧ n - 1 ≤ 9223372036854775807; omega⟩
            clear HP HF hd
            go_wp2_with (at_builtin; refine wp_appPn rfl _ _ 23 rfl w.heap.size M [⟨m, n - 1⟩] _ _ rfl rfl ((HO.out.alloc _).alloc _) (OwnPn.one1 hx.out wr _).rd.src ?_ ?_ ?_; (have := HB.out.size; simp; omega); (have := HL6.out; simp; omega); intro v3 w3 ho3 hb3; have O3 := Lib.hid ho3; have B3 := Lib.hid ((bal (bal HB.out _) _).trans hb3); clear ho3 hb3)
            go_roundw
            case rel => exact ⟨q + 1, by omega, by go_num, by rw [HF2.out], Lib.hid ⟨by rw [HP2.out]; exact O3.out, B3.out⟩⟩
            case measure => simp [intOf]; omega
        · have hd : decP c ⟨m, n⟩ = ⟨m, n⟩ := by unfold decP; rw [if_neg hmc]
          rw [hd] at HP
          have HF2 : Hid (remF (L.take (q + 1)) c = f) := Lib.hid (by rw [HF.out]; simp [hmc])
          have HP2 : Hid (remP c (L.take (q + 1)) = M ++ [⟨m, n⟩]) := Lib.hid (by rw [HP.out, if_pos (show 0 < n by omega)])
          have hx : Hid (Pn.ok ⟨m, n⟩) := Lib.hid ⟨hokM, by show -9223372036854775808 ≤ n ∧ n ≤ 9223372036854775807; omega⟩
          clear HP HF hd
          go_wp2_with (at_builtin; refine wp_appPn rfl _ _ 23 rfl w.heap.size M [⟨m, n⟩] _ _ rfl rfl ((HO.out.alloc _).alloc _) (OwnPn.one1 hx.out wr _).rd.src ?_ ?_ ?_; (have := HB.out.size; simp; omega); (have := HL6.out; simp; omega); intro v3 w3 ho3 hb3; have O3 := Lib.hid ho3; have B3 := Lib.hid ((bal (bal HB.out _) _).trans hb3); clear ho3 hb3)
          go_roundw
          case rel => exact ⟨q + 1, by omega, by go_num, by rw [HF2.out], Lib.hid ⟨by rw [HP2.out]; exact O3.out, B3.out⟩⟩
          case measure => simp [intOf]; omega
      · obtain rfl : q = L.length := by omega
        have HT : Hid (remE L c = if remF (L.take L.length) c = true then 0 else 8) := Lib.hid (by unfold remE; rw [HZ.out, List.take_length]; simp)
        have HW : Hid (remF (L.take L.length) c = true → remV L c = remP c (L.take L.length)) := Lib.hid (fun h => by unfold remV; rw [HT.out, if_pos h, if_pos rfl, List.take_length])
        have HU : Hid (remF (L.take L.length) c = false → remV L c = []) := Lib.hid (fun h => by unfold remV; rw [HT.out, h]; simp)
        generalize remF (L.take L.length) c = f at *
        generalize remP c (L.take L.length) = M at *
        cases f
        · have HE : Hid (remE L c = 8 ∧ remV L c = []) := Lib.hid ⟨by rw [HT.out]; rfl, HU.out rfl⟩
          clear HT HU HW
          go_wp2
          go_ret2
          exact ⟨_, by (rw [HE.out.1]; try rfl), by rw [HE.out.2]; exact OwnPn.empty _ _, HB.out⟩
        · have HE : Hid (remE L c = 0 ∧ remV L c = M) := Lib.hid ⟨by rw [HT.out]; rfl, HW.out rfl⟩
          clear HT HU HW
          go_wp2
          go_ret2
          exact ⟨_, by (rw [HE.out.1]; try rfl), by rw [HE.out.2]; exact HO.out, HB.out⟩
  · have HE : Hid (remE L c = z ∧ remV L c = []) := Lib.hid (by
      have e : remE L c = z := by unfold remE; rw [hz, if_pos hz0]
      exact ⟨e, by unfold remV; rw [e, if_neg hz0]⟩)
    clear hz
    go_enter Try.func11, Try.ntmps11
    go_wp2_with (go_at_call 13; refine hval.mono ?_; rintro e w1 ⟨rfl, hb1⟩; have B1 := Lib.hid hb1; clear hb1 hval)
    go_ret2
    exact ⟨_, by (rw [HE.out.1]; try rfl), by rw [HE.out.2]; exact OwnPn.empty _ _, B1.out⟩
end Go.Proofs.Ytledpfdflcmlcaa
