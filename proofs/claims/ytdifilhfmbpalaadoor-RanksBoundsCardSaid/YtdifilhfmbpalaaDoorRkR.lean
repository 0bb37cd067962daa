/- The contracts of ranks' rank and Rank. -/
import Derived.Test.YtdifilhfmbpalaaDoorRkQ
import Derived.Test.YtdifilhfmbpalaaDoorSrch
import Derived.Test.YtdifilhfmbpalaaDoorPRVal
import Derived.Test.YtdifilhfmbpalaaDoorRkU
import Derived.Shelf.Abstract
namespace Go.Proofs.YtdifilhfmbpalaaDoor
open Go.RowKit
set_option linter.unusedVariables false
set_option linter.unusedSimpArgs false
theorem gtr_eq (k x : ByteArray) : (!Op.bytesLess x.toList k.toList && !x.toList == k.toList) = lessK k x := by
  have h0 : Op.bytesLess x.toList k.toList = lessK x k := rfl
  rw [h0]
  cases h : lessK k x with
  | true =>
    have h1 : lessK x k = false := lessK_asym h
    have h2 : (x.toList == k.toList) = false := by
      rw [beq_eq_false_iff_ne]
      intro e
      have h3 : lessK k x = lessK x x := by unfold lessK; rw [e]
      rw [lessK_irr, h] at h3
      cases h3
    rw [h1, h2]
    rfl
  | false =>
    rcases lessK_tri x k with h1 | h1 | h1
    · rw [h1]; rfl
    · subst h1; simp
    · rw [h] at h1; cases h1
set_option maxRecDepth 100000 in
set_option maxHeartbeats 1000000 in
theorem rank1_any (l : List ByteArray) (k : ByteArray) (gk gs : Nat) (v : Value) (w : World) (h1 : w.cell? ⟨gk, 0, none⟩ = some v) (hv : RdS l v w) (h2 : w.cell? ⟨gs, 0, none⟩ = some (.string k)) (m i : Nat) (hi : i < l.length) (hn : l.length ≤ 549755813888) (hs : SOk l) (hk : k.size ≤ maxLen) :
    Calls Tryd.prog 74 #[.int .i64 (i : Int), .pointer (some ⟨gk, 0, none⟩), .pointer (some ⟨gs, 0, none⟩)] (w.drewN m) fun e w' => e = .returned (.bool (lessK k (l.getD i ByteArray.empty))) ∧ ∃ m', w' = w.drewN m' := by
  obtain ⟨a, c, rfl⟩ := hv.shape
  obtain ⟨b, o, rfl, -, hc⟩ := hv.cell hi
  have hsx := hs.at_ i
  generalize l.getD i ByteArray.empty = x at *
  have hi2 : (i : Int) < (l.length : Int) := by omega
  clear hv hs
  go_enter Tryd.func74, Tryd.ntmps74
  go_wp2
  go_quiet (fail)
  go_wp2
  go_ret
  exact ⟨by rw [← gtr_eq]; rfl, _, World.drewN_drewN _ _ _⟩
theorem enters_rank1 : ∀ args w, (callFunc 74 args).run Tryd.prog w = .ok (.enter 74 args) w := Go.Proofs.enters_of Tryd.func74 (by kernel_rfl) rfl
theorem asc_mono {l : List ByteArray} (h : Asc l) {k : ByteArray} {i j : Nat} (hij : i ≤ j) (hj : j < l.length) (hi : lessK k (l.getD i ByteArray.empty) = true) : lessK k (l.getD j ByteArray.empty) = true := by
  by_cases he : i = j
  · subst he; exact hi
  · have h1 := List.pairwise_iff_getElem.1 h i j (by omega) hj (by omega)
    have e1 : l.getD i ByteArray.empty = l[i]'(by omega) := by simp [List.getD, show i < l.length by omega]
    have e2 : l.getD j ByteArray.empty = l[j] := by simp [List.getD, hj]
    rw [e1] at hi
    rw [e2]
    cases h2 : lessK k l[j] with
    | true => rfl
    | false =>
      have h3 := leK_trans h1 h2
      rw [hi] at h3
      cases h3
set_option maxRecDepth 100000 in
set_option maxHeartbeats 2000000 in
theorem rank_any (L : List (List ByteArray)) (v : Value) (k : ByteArray) (w : World) (hr : RdL L v w) (hok : LOk L) (hg : ∀ l ∈ L, Asc l ∧ l.length ≤ 31) (hn : L.length ≤ 41) (hs : insN 0 L ≤ 1099511627776) (hk : k.size ≤ maxLen) :
    Calls Tryd.prog 49 #[v, .string k] w fun e w' => e = .returned (.int .i64 (rnkN k 0 L : Nat)) ∧ Below w.heap.size w w' := by
  obtain ⟨a, c, rfl⟩ := hr.shape
  have HR := Lib.hid hr
  have HG := Lib.hid (fun j => getD_all (p := fun l => Asc l ∧ l.length ≤ 31) hg ⟨List.Pairwise.nil, Nat.zero_le _⟩ j)
  have HO := Lib.hid hok
  have HT := Lib.hid (fun j => Nat.le_trans (rnkN_take_le (k := k) (L := L) j) (Nat.le_trans (rnkN_le k L 0) hs))
  clear hr hok hg hs
  go_enter Tryd.func49, Tryd.ntmps49
  go_wp2
  have HK0 : Hid ((w.alloc (.cells #[.string k] 9)).cell? ⟨w.heap.size, 0, none⟩ = some (.string k)) := Lib.hid (by go_simp)
  have HB0 : Hid (Below w.heap.size w (w.alloc (.cells #[.string k] 9))) := Lib.hid (b1 _)
  have HS0 : Hid (w.heap.size < (w.alloc (.cells #[.string k] 9)).heap.size) := Lib.hid (by simp)
  generalize w.alloc (.cells #[.string k] 9) = W0 at *
  go_loopw [5, 10] (fun vs vj wr => ∃ j : Nat, j ≤ L.length ∧ vj = .int .i64 (j : Int) ∧ Hid (vs = .int .i64 (rnkN k 0 (L.take j) : Nat)) ∧ Hid (Below W0.heap.size W0 wr)) (fun _ vj _ => L.length - (intOf vj).toNat)
  case atStart => exact ⟨0, Nat.zero_le _, rfl, Lib.hid rfl, Lib.hid (Below.refl _ _)⟩
  case round =>
    obtain ⟨j, hj, rfl, HX, HI⟩ := hrel
    have hx := HX.out
    subst hx
    by_cases hlt : j < L.length
    · have hlt2 : (j : Int) < (L.length : Int) := by omega
      obtain ⟨b, off, u, m, c2, rfl, -, hb, hc, hrr, hm⟩ := (HR.out.below (bgo HB0.out HI.out)).at_ hlt
      have hst := rnkN_take (k := k) hlt
      have hbd := HT.out (j + 1)
      have hgl := HG.out j
      have hsl := (HO.out.at_ j).2
      subst hm
      generalize L.getD j [] = l at *
      have hp40 : j ≤ 40 := by omega
      have hkw := ((bcell HI.out).1 w.heap.size 0 HS0.out).trans HK0.out
      have hWA := (b1 (a := wr) (.cells #[.slice u l.length c2] 57))
      have hg1 : w.heap.size < wr.heap.size := Nat.lt_of_lt_of_le HS0.out HI.out.size
      have hts : TellsS 74 (.pointer (some ⟨wr.heap.size, 0, none⟩)) (.pointer (some ⟨w.heap.size, 0, none⟩)) (fun i => lessK k (l.getD i ByteArray.empty)) l.length (wr.alloc (.cells #[.slice u l.length c2] 57)) :=
        ⟨enters_rank1, fun m i hi => rank1_any l k wr.heap.size w.heap.size (.slice u l.length c2) _ (by go_simp) (hrr.below hWA) (((bcell hWA).1 w.heap.size 0 hg1).trans hkw) m i hi (by omega) hsl hk⟩
      have HSE := Lib.hid (search_any _ _ _ _ l.length _ hts (fun a b hab hb ha => asc_mono hgl.1 hab hb ha) (by omega))
      have HCN := Lib.hid (fun (q : Nat) (h0 : q ≤ l.length) (h1 : ∀ i, i < q → lessK k (l.getD i ByteArray.empty) = false) (h2 : q < l.length → lessK k (l.getD q ByteArray.empty) = true) => cntK_of h0 h1 (fun i h3 h4 => asc_mono hgl.1 h3 h4 (h2 (by omega))))
      have HAF := Lib.hid (bal HI.out (.cells #[.slice u l.length c2] 57))
      have hcl := cntK_le k l
      clear hts hWA hrr hsl
      generalize rnkN k 0 (L.take j) = s at *
      generalize cntK k l = q0 at *
      have HST := Lib.hid hst
      have hq1 : s + q0 * 2 ^ j ≤ 1099511627776 := by rw [← hst]; exact hbd
      have hshl := wr_mul q0 j (by omega)
      have hadd := wr_pow s q0 j (by omega)
      have hsh2 : (0 : Int) ≤ (j : Int) := by omega
      clear hst hbd hgl
      go_wp2_with (go_at_call 54; (with_reducible refine HSE.out.mono ?_); rintro e w2 ⟨q, m, h0, h1, h2, rfl, rfl⟩; have hq := HCN.out q h0 h1 h2; subst hq; clear h0 h1 h2)
      exact ⟨⟨j + 1, by omega, by go_num, Lib.hid (by rw [HST.out, ← hadd]), Lib.hid (below_drewN HAF.out m)⟩, by simp [intOf]; omega⟩
    · obtain rfl : j = L.length := by omega
      rw [List.take_length]
      go_wp2
      go_ret
      exact ⟨rfl, bgo HB0.out HI.out⟩
/-- What Rank answers. -/
def rkR (t : RK) (k : ByteArray) : Int := if valR t.S t.T t.K t.L = 0 then (if keyB (byt k) = true then (rnkN k 0 t.L : Nat) else 0) else 0
def rkRE (t : RK) (k : ByteArray) : Int := if valR t.S t.T t.K t.L = 0 then (if keyB (byt k) = true then 0 else 7) else valR t.S t.T t.K t.L
set_option maxRecDepth 100000 in
set_option maxHeartbeats 2000000 in
theorem prank_any (t : RK) (v : Value) (k : ByteArray) (w : World) (hv : RdR t v w) (hok : LOk t.L) (hk : k.size ≤ maxLen) :
    Calls Tryd.prog 24 #[v, .string k] w fun e w' => e = .returned (.tuple #[.int .i64 (rkR t k), .int .i64 (rkRE t k)]) ∧ Below w.heap.size w w' := by
  obtain ⟨S, T, K, L, s⟩ := t
  obtain ⟨a, c, rfl, hr⟩ := hv.run
  clear hv
  dsimp only at hr hok ⊢
  have HV := Lib.hid (fun (w' : World) (hb : Below w.heap.size w w') => pvalR_any S T K L s a L.length c w' (hr.below hb) hok)
  have hky := fun w => isKey_any k w hk
  have HR0 := Lib.hid (fun (w2 : World) (hb2 : Below (w.alloc (.cells #[.int .i64 S, .int .i64 T, .int .i64 K, .slice a L.length c, .bool s] 28)).heap.size (w.alloc (.cells #[.int .i64 S, .int .i64 T, .int .i64 K, .slice a L.length c, .bool s] 28)) w2) => ((RsS.new S T K (.slice a L.length c) s 28 w).go hb2).1)
  unfold rkR rkRE
  dsimp only
  by_cases hE : valR S T K L = 0
  · rw [hE] at HV
    rw [if_pos hE, if_pos hE]
    have hval := valR_ok hE
    have HRK := Lib.hid (fun (w' : World) (hb : Below w.heap.size w w') => rank_any L (.slice a L.length c) k w' (hr.below hb) hok (fun l hl => ⟨(hval.lv l hl).2.2, hval.rows l hl⟩) hval.nl (by have := hval.sum; have := hval.t1; omega) hk)
    generalize rnkN k 0 L = R at *
    clear hval hE hr hok
    cases hK : keyB (byt k)
    all_goals
      rw [hK] at hky
      go_enter Tryd.func24, Tryd.ntmps24
      go_wp2_with (first
        | (go_at_call 20; (with_reducible refine (HV.out _ (b1 _)).mono ?_); rintro e w2 ⟨rfl, hb2⟩; obtain ⟨p0, p1, p2, p3, p4⟩ := HR0.out _ hb2; have B2 := Lib.hid (bgo (b1 _) hb2); clear hb2)
        | (go_at_call 48; (with_reducible refine (hky _).mono ?_); rintro e w3 ⟨rfl, rfl⟩)
        | (go_at_call 49; (with_reducible refine (HRK.out _ B2.out).mono ?_); rintro e w4 ⟨rfl, hb4⟩; have B4 := Lib.hid (bgo B2.out hb4); clear hb4))
      go_ret2
      first
        | exact ⟨rfl, B4.out⟩
        | exact ⟨rfl, B2.out⟩
  · have hE2 : (valR S T K L != 0) = true := by simpa using hE
    rw [if_neg hE, if_neg hE]
    clear hE hr hok
    go_enter Tryd.func24, Tryd.ntmps24
    go_wp2_with (go_at_call 20; (with_reducible refine (HV.out _ (b1 _)).mono ?_); rintro e w2 ⟨rfl, hb2⟩; have B2 := Lib.hid (bgo (b1 _) hb2); clear hb2)
    go_ret2
    exact ⟨rfl, B2.out⟩
end Go.Proofs.YtdifilhfmbpalaaDoor
