/- The reference's AddPin. -/
import Derived.Test.YtledpfdflcmlcaaPnX
namespace Go.Proofs.Ytledpfdflcmlcaa
open Go.RowKit
set_option linter.unusedVariables false
set_option linter.unusedSimpArgs false
theorem addP_skip (c : Int) : ∀ (A R : List Pn), (∀ x ∈ A, x.m < c) → addP c (A ++ R) = A ++ addP c R
  | [], R, _ => rfl
  | p :: A, R, h => by
    have h1 := h p (List.mem_cons_self ..)
    simp only [List.cons_append, addP]
    rw [if_neg (by omega), if_neg (by omega), addP_skip c A R (fun x hx => h x (List.mem_cons_of_mem _ hx))]
theorem addP_len (c : Int) : ∀ L : List Pn, (addP c L).length ≤ L.length + 1
  | [] => Nat.le_refl _
  | p :: L => by
    have := addP_len c L
    unfold addP
    split
    · simp
    · split <;> simp <;> omega
theorem pn_drop {L : List Pn} {j : Nat} (h : j < L.length) : L.drop j = L.getD j Pn.z :: L.drop (j + 1) := by
  rw [List.drop_eq_getElem_cons h]
  simp [List.getD, h]
theorem At2Pn.keep {x : Pn} {b o : Nat} {w w' : World} (h : At2Pn x b o w) (hb : w'.heap[b]? = w.heap[b]?) : At2Pn x b o w' :=
  ⟨(World.cell?_of_block (w := w) (a := ⟨b, o, none⟩) hb).trans h.1, (World.cell?_of_block (w := w) (a := ⟨b, o + 1, none⟩) hb).trans h.2⟩
theorem At2Pn.new (x : Pn) (w : World) : At2Pn x w.heap.size 0 (w.alloc (.cells #[.int .i64 x.m, .int .i64 x.n] 38)) := ⟨by go_simp, by go_simp⟩
section
variable {w : World}
/-- append, onto pins of the call's own: just its own row turns. -/
theorem wp_appPnL {ops : Array Oper} {rest : List Oper} {o : Oper} {a : Act} {Q : Exit → Act → World → Prop} (hgd : o.guard = none) (s x : Operand) (tx : TypeId)
    (ho : o.op = .call { callee := .builtin .append, args := #[s, x], argTypes := #[23, tx] }) (B : Nat) (L M : List Pn) (v u : Value) (hs : a.eval s = v) (hx : a.eval x = u)
    (hown : OwnPn B L v w) (hsrc : FromPn M tx u w) (hB : B ≤ w.heap.size) (hn : L.length + M.length ≤ 1099511627776)
    (h : ∀ v' w', OwnPn B (L ++ M) v' w' → Below B w w' → (∀ g, g < w.heap.size → v.ownBlock ≠ some g → w'.heap[g]? = w.heap[g]?) → wpList Try.prog ops Q rest (a.put o.dst v') w') : wpList Try.prog ops Q (o :: rest) a w := by
  obtain ⟨i0, hi, hz0, hz1, hz2⟩ := info_parts info_pn
  refine wpList_own_src w hgd s x 23 tx ho B 38 i0 (.agg #[.int .i64 0, .int .i64 0]) 2 16 Try.underlying23 hi hz0 hz1 hz2 rfl (by decide) v L.length (cellsPn L) hs hown.2 u M.length (cellsPn M) hx hsrc.2 (by unfold maxLen; omega) (by omega) hB ?_
  intro v' w' h1 h2
  refine h v' w' ⟨hown.1.app hsrc.1, ?_⟩ ((Below.refl _ _).grown h2 hB (fun k hk => (World.ownsRow.lt hown.2 k hk).1)) (fun g hg hne => h2.block g hg (Ne.symm hne))
  rw [List.length_append, cellsPn_app]
  exact h1
end
/-- What has been put down of the first q pins. -/
def AdS (B q : Nat) (L : List Pn) (c : Int) (d : Bool) (M : List Pn) (w wr : World) (o : Value) : Prop :=
  OwnPn B M o wr ∧ Below w.heap.size w wr ∧ M.length ≤ q + 1 ∧ (d = false → M = L.take q ∧ ∀ x ∈ M, x.m < c) ∧ (d = true → M ++ L.drop q = addP c L)
theorem ads_end {B : Nat} {L : List Pn} {c : Int} {d : Bool} {M : List Pn} {w wr : World} {o : Value} (h : AdS B L.length L c d M w wr o) : if d then M = addP c L else M ++ [⟨c, 1⟩] = addP c L := by
  obtain ⟨-, -, -, h1, h2⟩ := h
  cases d
  · obtain ⟨e, hx⟩ := h1 rfl
    rw [List.take_length] at e
    subst e
    have := addP_skip c M [] hx
    rw [List.append_nil] at this
    simp only [Bool.false_eq_true, if_false]
    rw [this]
    rfl
  · have := h2 rfl
    rw [List.drop_length, List.append_nil] at this
    simpa using this
set_option maxRecDepth 100000 in
set_option maxHeartbeats 2000000 in
theorem radd_ok (L : List Pn) (v : Value) (c : Int) (w : World) (hv : RdPn L v w) (hL : L.length ≤ 1000000) (hc : 0 ≤ c ∧ c ≤ 9223372036854775807) (hz : valN L = 0) (hf : fullP L c = false) :
    Calls Try.prog 9 #[v, .int .i64 c] w fun e w' => ∃ u, e = .returned (.tuple #[u, .int .i64 0]) ∧ OwnPn w.heap.size (addP c L) u w' ∧ Below w.heap.size w w' := by
  obtain ⟨a, cap, rfl⟩ := hv.shape
  have HV := Lib.hid hv
  have hval := rvalp_any L _ w hv (by omega)
  clear hv
  rw [hz] at hval
  have HVD := Lib.hid ((vd_iff L).1 hz)
  have HFU := Lib.hid (fun q (hq : q < L.length) => show ¬ ((L.getD q Pn.z).m = c ∧ (L.getD q Pn.z).n = 1024) by
    rintro ⟨h1, h2⟩
    unfold fullP at hf
    rw [List.any_eq_false] at hf
    have := hf (L.getD q Pn.z) (by simp [List.getD, hq])
    rw [h1, h2] at this
    simp at this)
  clear hz hf
  have hc0 := hc.1
  go_enter Try.func9, Try.ntmps9
  go_wp2_with (go_at_call 13; refine hval.mono ?_; rintro e w1 ⟨rfl, hb1⟩; have B1 := Lib.hid hb1; clear hb1 hval)
  go_loopw [7] (fun i wr => ∃ q : Nat, q ≤ L.length ∧ i = .int .i64 (q : Int) ∧ Hid (Below w.heap.size w wr)) (fun i _ => L.length - (intOf i).toNat)
  case atStart => exact ⟨0, by omega, rfl, B1⟩
  case round =>
    clear B1
    obtain ⟨q, hq, rfl, HB⟩ := hrel
    by_cases hlt : q < L.length
    · have hqi : (q : Int) < (L.length : Int) := by omega
      obtain ⟨b, off, rfl, hbl, c0, c1⟩ := (HV.out.below HB.out).at_ hlt
      have hno := HFU.out q hlt
      generalize L.getD q Pn.z = p at *
      obtain ⟨m, n⟩ := p
      have c0 : _ = some (Value.int .i64 m) := c0
      have c1 : _ = some (Value.int .i64 n) := c1
      have hno : ¬ (m = c ∧ n = 1024) := hno
      by_cases hm : m = c
      · subst hm
        have hn : ¬ n = 1024 := fun h => hno ⟨rfl, h⟩
        clear hno
        go_wp2
        go_roundw
        case rel => exact ⟨q + 1, by omega, by go_num, HB⟩
        case measure => simp [intOf]; omega
      · clear hno
        go_wp2
        go_roundw
        case rel => exact ⟨q + 1, by omega, by go_num, HB⟩
        case measure => simp [intOf]; omega
    · obtain rfl : q = L.length := by omega
      go_wp2
      clear hq hlt
      go_loopw [8, 9, 10, 11] (fun o d i p wr => ∃ (q : Nat) (f : Bool), q ≤ L.length ∧ i = .int .i64 (q : Int) ∧ d = .bool f ∧ Hid (∃ M, AdS w.heap.size q L c f M w wr o)) (fun _ _ i _ _ => L.length - (intOf i).toNat)
      case atStart => exact ⟨0, false, by omega, rfl, rfl, Lib.hid ⟨[], OwnPn.empty _ _, HB.out, by simp, fun _ => ⟨rfl, fun x hx => by cases hx⟩, fun h => by cases h⟩⟩
      case round =>
        clear HB
        obtain ⟨q, f, hq, rfl, rfl, HI⟩ := hrel
        obtain ⟨M, HM⟩ := HI.out
        obtain ⟨ho, hb, hlm, hE, hD⟩ := HM
        obtain ⟨a5, c5, rfl⟩ := ho.rd.shape
        have HO := Lib.hid ho
        have HB := Lib.hid hb
        have HLM := Lib.hid (show M.length ≤ 1000001 by omega)
        have HLN := Lib.hid hlm
        have HE := Lib.hid hE
        have HD := Lib.hid hD
        have HK := Lib.hid (fun g e => (World.ownsRow.lt ho.2 g e).2)
        clear HI ho hb hlm hE hD
        by_cases hlt : q < L.length
        · have hqi : (q : Int) < (L.length : Int) := by omega
          obtain ⟨b, off, rfl, hbl, c0, c1⟩ := (HV.out.below HB.out).at_ hlt
          have hok := (HV.out.1.at_ q)
          have hn2 := (vd_at HVD.out q hlt).2.1
          have HDR := Lib.hid (pn_drop hlt)
          have HTK := Lib.hid (pn_take hlt)
          have HSP := Lib.hid (fun h => addP_skip c (L.take q) (L.drop q) h)
          rw [List.take_append_drop] at HSP
          generalize L.getD q Pn.z = p at *
          obtain ⟨m, n⟩ := p
          have c0 : _ = some (Value.int .i64 m) := c0
          have c1 : _ = some (Value.int .i64 n) := c1
          have hn2 : n ≤ 1024 := hn2
          have HX : Hid (Pn.ok ⟨m, n⟩) := Lib.hid hok
          have hm1 : -9223372036854775808 ≤ m ∧ m ≤ 9223372036854775807 := hok.1
          have hn1 : -9223372036854775808 ≤ n ∧ n ≤ 9223372036854775807 := hok.2
          clear hok
          cases f with
          | true =>
            go_wp2_with (at_builtin; refine wp_appPn rfl _ _ 23 rfl w.heap.size M [⟨m, n⟩] _ _ rfl rfl ((HO.out.alloc _).alloc _) (OwnPn.one1 HX.out wr _).rd.src ?_ ?_ ?_; (have := HB.out.size; simp; omega); (have := HLM.out; simp; omega); intro v3 w3 ho3 hb3; have O3 := Lib.hid ho3; have B3 := Lib.hid ((bal (bal HB.out _) _).trans hb3); clear ho3 hb3)
            go_roundw
            case rel => exact ⟨q + 1, true, by omega, by go_num, rfl, Lib.hid ⟨_, O3.out, B3.out, by (have := HLN.out; simp; omega), fun h => (by cases h), fun _ => by rw [← HD.out rfl, HDR.out]; simp⟩⟩
            case measure => simp [intOf]; omega
          | false =>
            obtain ⟨e1, e2⟩ := HE.out rfl
            have HE1 := Lib.hid e1
            have HE2 := Lib.hid e2
            clear e1 e2
            by_cases hle : c ≤ m
            · by_cases hlt2 : c < m
              · have HX1 : Hid (Pn.ok ⟨c, 1⟩) := Lib.hid ⟨by show -9223372036854775808 ≤ c ∧ c ≤ 9223372036854775807; omega, by show (-9223372036854775808 : Int) ≤ 1 ∧ (1 : Int) ≤ 9223372036854775807; decide⟩
                go_wp2_with (first
                  | (at_builtin; refine wp_appPnL rfl _ _ 23 rfl w.heap.size M [⟨c, 1⟩] _ _ rfl rfl ((HO.out.alloc _).alloc _) (OwnPn.one1 HX1.out wr _).rd.src ?_ ?_ ?_; (have := HB.out.size; simp; omega); (have := HLM.out; simp; omega); intro v3 w3 ho3 hb3 hk3; have O3 := Lib.hid ho3; have B3 := Lib.hid ((bal (bal HB.out _) _).trans hb3); have A3 := Lib.hid (((At2Pn.new ⟨m, n⟩ wr).below (b1 _) (by simp)).keep (hk3 wr.heap.size (by simp; omega) (fun e => absurd (HK.out _ e) (Nat.lt_irrefl _)))); have d0 : w3.cell? ⟨wr.heap.size, 0, none⟩ = some (Value.int .i64 m) := A3.out.1; have d1 : w3.cell? ⟨wr.heap.size, 1, none⟩ = some (Value.int .i64 n) := A3.out.2; clear ho3 hb3 hk3 A3)
                  | (at_builtin; refine wp_appPn rfl _ _ 23 rfl w.heap.size (M ++ [⟨c, 1⟩]) [⟨m, n⟩] _ _ rfl rfl (O3.out.alloc _) (OwnPn.one HX.out w3).rd.src ?_ ?_ ?_; (have := B3.out.size; simp; omega); (have := HLM.out; simp; omega); intro v4 w4 ho4 hb4; have O4 := Lib.hid ho4; have B4 := Lib.hid ((bal B3.out _).trans hb4); clear ho4 hb4))
                go_roundw
                case rel => exact ⟨q + 1, true, by omega, by go_num, rfl, Lib.hid ⟨_, O4.out, B4.out, by (have := congrArg List.length HE1.out; rw [List.length_take] at this; simp; omega), fun h => (by cases h), fun _ => by
                  rw [HSP.out (by rw [← HE1.out]; exact HE2.out), ← HE1.out, HDR.out]
                  simp [addP, hlt2]⟩⟩
                case measure => simp [intOf]; omega
              · obtain rfl : c = m := by omega
                have HX2 : Hid (Pn.ok ⟨c, n + 1⟩) := Lib.hid ⟨hm1, by show -9223372036854775808 ≤ n + 1 ∧ n + 1 ≤ 9223372036854775807; omega⟩
                go_wp2_with (at_builtin; refine wp_appPn rfl _ _ 23 rfl w.heap.size M [⟨c, n + 1⟩] _ _ rfl rfl ((HO.out.alloc _).alloc _) (OwnPn.one1 HX2.out wr _).rd.src ?_ ?_ ?_; (have := HB.out.size; simp; omega); (have := HLM.out; simp; omega); intro v3 w3 ho3 hb3; have O3 := Lib.hid ho3; have B3 := Lib.hid ((bal (bal HB.out _) _).trans hb3); clear ho3 hb3)
                go_roundw
                case rel => exact ⟨q + 1, true, by omega, by go_num, rfl, Lib.hid ⟨_, O3.out, B3.out, by (have := HLN.out; simp; omega), fun h => (by cases h), fun _ => by
                  rw [HSP.out (by rw [← HE1.out]; exact HE2.out), ← HE1.out, HDR.out]
                  simp [addP]⟩⟩
                case measure => simp [intOf]; omega
            · go_wp2_with (at_builtin; refine wp_appPn rfl _ _ 23 rfl w.heap.size M [⟨m, n⟩] _ _ rfl rfl ((HO.out.alloc _).alloc _) (OwnPn.one1 HX.out wr _).rd.src ?_ ?_ ?_; (have := HB.out.size; simp; omega); (have := HLM.out; simp; omega); intro v3 w3 ho3 hb3; have O3 := Lib.hid ho3; have B3 := Lib.hid ((bal (bal HB.out _) _).trans hb3); clear ho3 hb3)
              go_roundw
              case rel => exact ⟨q + 1, false, by omega, by go_num, rfl, Lib.hid ⟨_, O3.out, B3.out, by (have := HLN.out; simp; omega), fun _ => ⟨by rw [HTK.out, HE1.out], fun x hx => by
                rcases List.mem_append.1 hx with h | h
                · exact HE2.out x h
                · rw [List.mem_singleton] at h
                  subst h
                  show m < c
                  omega⟩, fun h => (by cases h)⟩⟩
              case measure => simp [intOf]; omega
        · obtain rfl : q = L.length := by omega
          have HT := Lib.hid (ads_end (show AdS w.heap.size L.length L c f M w wr (.slice a5 M.length c5) from ⟨HO.out, HB.out, HLN.out, HE.out, HD.out⟩))
          cases f with
          | true =>
            have HT2 : Hid (M = addP c L) := Lib.hid (by simpa using HT.out)
            clear HT
            go_wp2
            go_ret2
            exact ⟨_, rfl, by rw [← HT2.out]; exact HO.out, HB.out⟩
          | false =>
            have HT2 : Hid (M ++ [⟨c, 1⟩] = addP c L) := Lib.hid (by simpa using HT.out)
            have HX1 : Hid (Pn.ok ⟨c, 1⟩) := Lib.hid ⟨by show -9223372036854775808 ≤ c ∧ c ≤ 9223372036854775807; omega, by show (-9223372036854775808 : Int) ≤ 1 ∧ (1 : Int) ≤ 9223372036854775807; decide⟩
            clear HT
            go_wp2_with (at_builtin; refine wp_appPn rfl _ _ 23 rfl w.heap.size M [⟨c, 1⟩] _ _ rfl rfl (HO.out.alloc _) (OwnPn.one HX1.out wr).rd.src ?_ ?_ ?_; (have := HB.out.size; simp; omega); (have := HLM.out; simp; omega); intro v3 w3 ho3 hb3; have O3 := Lib.hid ho3; have B3 := Lib.hid ((bal HB.out _).trans hb3); clear ho3 hb3)
            go_ret2
            exact ⟨_, rfl, by rw [← HT2.out]; exact O3.out, B3.out⟩
end Go.Proofs.Ytledpfdflcmlcaa
