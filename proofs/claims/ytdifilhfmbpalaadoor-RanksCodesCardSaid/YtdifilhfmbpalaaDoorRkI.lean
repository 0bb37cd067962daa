/- The contracts of ranks' New and Insert; the memory of an insertion. -/
import Derived.Test.YtdifilhfmbpalaaDoorRkU
import Derived.Test.YtdifilhfmbpalaaDoorItem
import Derived.Test.YtdifilhfmbpalaaDoorMeetX
namespace Go.Proofs.YtdifilhfmbpalaaDoor
open Go.RowKit
set_option linter.unusedVariables false
set_option linter.unusedSimpArgs false
theorem RsS.put5 {g : Nat} {S T K : Int} {v : Value} {s : Bool} {w : World} (h : RsS g S T K v s w) (S' T' K' : Int) (v' : Value) (s' : Bool) :
    RsS g S' T' K' v' s' (((((w.setCell ⟨g, 0, none⟩ (.int .i64 S')).setCell ⟨g, 1, none⟩ (.int .i64 T')).setCell ⟨g, 2, none⟩ (.int .i64 K')).setCell ⟨g, 3, none⟩ v').setCell ⟨g, 4, none⟩ (.bool s')) := by
  obtain ⟨⟨h0, h1, h2, h3, h4⟩, f0, f1, f2, f3, f4⟩ := h
  exact ⟨⟨by go_simp, by go_simp, by go_simp, by go_simp, by go_simp⟩, by go_simp, by go_simp, by go_simp, by go_simp, by go_simp⟩
/-- A summary lies in a block of the call's own. -/
def FiveS (W : World) (g : Nat) (R : RK) (u : Value) (w : World) : Prop := RsS g R.S R.T R.K u R.s w ∧ RdB (g + 1) R.L u w ∧ Below W.heap.size W w
theorem FiveS.go {W : World} {g : Nat} {R : RK} {u : Value} {w w' : World} (h : FiveS W g R u w) (hb : Below w.heap.size w w') : FiveS W g R u w' := ⟨h.1.go hb, h.2.1.below hb, bgo h.2.2 hb⟩
theorem FiveS.put {W : World} {g : Nat} {R : RK} {u v : Value} {S T K : Int} {s : Bool} {w : World} (h : RsS g S T K v s w) (ho : RdB (g + 1) R.L u w) (hb : Below W.heap.size W w) (hg : W.heap.size ≤ g) :
    FiveS W g R u (((((w.setCell ⟨g, 0, none⟩ (.int .i64 R.S)).setCell ⟨g, 1, none⟩ (.int .i64 R.T)).setCell ⟨g, 2, none⟩ (.int .i64 R.K)).setCell ⟨g, 3, none⟩ u).setCell ⟨g, 4, none⟩ (.bool R.s)) := by
  have l4 := Nat.lt_succ_self g
  exact ⟨h.put5 _ _ _ _ _, ((((ho.under l4).under l4).under l4).under l4).under l4, bset (bset (bset (bset (bset hb _ _ _ hg) _ _ _ hg) _ _ _ hg) _ _ _ hg) _ _ _ hg⟩
/-- A new summary. -/
def newR (S : Int) : RK := if szR S = true then ⟨S, 0, 0, [], false⟩ else RK.none
def newRE (S : Int) : Int := if szR S = true then 0 else 5
/-- A summary of one item. -/
def oneR (S : Int) (k : ByteArray) (x : Int) : RK := ⟨S, x, 0, aloneL k x.toNat, false⟩
/-- What an insertion answers: the summary and the next position, the error. -/
def insR (t : RK) (k : ByteArray) (x : Int) (Z : List Int) (a : Int) : RK × Int := if valR t.S t.T t.K t.L = 0 then (if itemE (byt k) x = 0 ∧ posR a = true then sumK t (oneR t.S k x) Z a else (RK.none, 0)) else (RK.none, 0)
def insRE (t : RK) (k : ByteArray) (x a : Int) : Int := if valR t.S t.T t.K t.L = 0 then (if itemE (byt k) x = 0 ∧ posR a = true then 0 else if itemE (byt k) x = 0 then 5 else itemE (byt k) x) else valR t.S t.T t.K t.L
theorem itemR {k : List Int} {x : Int} (h : itemE k x = 0) : keyB k = true ∧ 1 ≤ x ∧ x ≤ 4294967295 := by
  unfold itemE at h
  cases hk : keyB k with
  | false => rw [hk, if_pos rfl] at h; cases h
  | true =>
    rw [hk, if_neg (by simp)] at h
    by_cases hx : x < 1 ∨ 4294967295 < x
    · rw [if_pos hx] at h; cases h
    · exact ⟨rfl, by omega, by omega⟩
theorem one_val {S : Int} {k : ByteArray} {x : Int} (s0 : 2 ≤ S) (s1 : S ≤ 32) (ev : S % 2 = 0) (hk : keyB (byt k) = true) (x0 : 1 ≤ x) (x1 : x ≤ 4294967295) : ValR S x 0 (aloneL k x.toNat) := by
  have hr0 : 0 < x.toNat := by omega
  have hr1 : x.toNat ≤ 1099511627776 := by omega
  have hl : ∀ l ∈ aloneL k x.toNat, l = [k] ∨ l = [] := fun l hl => by
    obtain ⟨i, -, rfl⟩ := List.mem_map.1 hl
    split
    · exact .inl rfl
    · exact .inr rfl
  refine ⟨s0, s1, ev, by omega, by omega, by omega, by omega, ?_, fun l h => ?_, aloneL_last k _ hr0 (by omega), by rw [aloneL_ins k _ hr0 hr1]; omega⟩
  · rw [aloneL_len]
    have := pows_lt41 hr1 (topP_mem hr0 (by omega))
    omega
  · rcases hl l h with rfl | rfl
    · exact ⟨by simp; omega, fun y hy => by rw [List.mem_singleton.1 hy]; exact hk, List.pairwise_singleton _ _⟩
    · exact ⟨by simp; omega, fun y hy => (by cases hy), List.Pairwise.nil⟩
theorem posR_iff {a : Int} (h : posR a = true) : 0 ≤ a ∧ a ≤ 1073741824 := by unfold posR at h; simpa using h
/-- A struct of two cells in memory: an item. -/
def Itm (g : Nat) (k : ByteArray) (x : Int) (w : World) : Prop := w.cell? ⟨g, 0, none⟩ = some (.string k) ∧ w.cell? ⟨g, 1, none⟩ = some (.int .i64 x)
theorem Itm.keep {g : Nat} {k : ByteArray} {x : Int} {w w' : World} (h : Itm g k x w) (hb : w'.heap[g]? = w.heap[g]?) : Itm g k x w' :=
  ⟨(World.cell?_of_block (w := w) (a := ⟨g, 0, none⟩) hb).trans h.1, (World.cell?_of_block (w := w) (a := ⟨g, 1, none⟩) hb).trans h.2⟩
/-- The three structs of an insertion. -/
def MI (W : World) (a : RK) (v : Value) (k : ByteArray) (x : Int) (w : World) : Prop :=
  RsS W.heap.size a.S a.T a.K v a.s w ∧ Itm (W.heap.size + 1) k x w ∧ RsS (W.heap.size + 2) 0 0 0 (.slice none 0 0) false w ∧ Below W.heap.size W w
section
variable {W w w' : World} {a : RK} {v : Value} {k : ByteArray} {x : Int}
theorem MI.bel (h : MI W a v k x w) : Below W.heap.size W w := h.2.2.2
theorem MI.lt (h : MI W a v k x w) : W.heap.size + 2 < w.heap.size := h.2.2.1.lt
theorem MI.keep (h : MI W a v k x w) (hb : Below (W.heap.size + 3) w w') : MI W a v k x w' :=
  ⟨h.1.keep (hb.block _ (by omega)), h.2.1.keep (hb.block _ (by omega)), h.2.2.1.keep (hb.block _ (by omega)), h.2.2.2.trans (hb.mono (by omega))⟩
theorem MI.go (h : MI W a v k x w) (hb : Below w.heap.size w w') : MI W a v k x w' := h.keep (hb.mono (by have := h.lt; omega))
theorem MI.new (W : World) (a : RK) (v : Value) (k : ByteArray) (x : Int) :
    MI W a v k x (((W.alloc (.cells #[.int .i64 a.S, .int .i64 a.T, .int .i64 a.K, v, .bool a.s] 28)).alloc (.cells #[.string k, .int .i64 x] 32)).alloc (.cells #[.int .i64 0, .int .i64 0, .int .i64 0, .slice none 0 0, .bool false] 28)) :=
  ⟨RsS.new1 _ _ _ _ _ _ _ _ _, ⟨by go_simp, by go_simp⟩, RsS.new3 _ _ _ _ _ _ _ _ _, b3 _ _ _⟩
theorem MI.cells (h : MI W a v k x w) :
    (w.cell? ⟨W.heap.size, 0, none⟩ = some (.int .i64 a.S) ∧ w.cell? ⟨W.heap.size, 1, none⟩ = some (.int .i64 a.T) ∧ w.cell? ⟨W.heap.size, 2, none⟩ = some (.int .i64 a.K) ∧ w.cell? ⟨W.heap.size, 3, none⟩ = some v ∧ w.cell? ⟨W.heap.size, 4, none⟩ = some (.bool a.s)) ∧
    (w.cell? ⟨W.heap.size + 1, 0, none⟩ = some (.string k) ∧ w.cell? ⟨W.heap.size + 1, 1, none⟩ = some (.int .i64 x)) ∧
    (w.cell? ⟨W.heap.size + 2, 0, none⟩ = some (.int .i64 0) ∧ w.cell? ⟨W.heap.size + 2, 1, none⟩ = some (.int .i64 0) ∧ w.cell? ⟨W.heap.size + 2, 2, none⟩ = some (.int .i64 0) ∧ w.cell? ⟨W.heap.size + 2, 3, none⟩ = some (.slice none 0 0) ∧ w.cell? ⟨W.heap.size + 2, 4, none⟩ = some (.bool false)) ∧
    (w.frozen? ⟨W.heap.size + 2, 0, none⟩ = false ∧ w.frozen? ⟨W.heap.size + 2, 1, none⟩ = false ∧ w.frozen? ⟨W.heap.size + 2, 2, none⟩ = false ∧ w.frozen? ⟨W.heap.size + 2, 3, none⟩ = false ∧ w.frozen? ⟨W.heap.size + 2, 4, none⟩ = false) :=
  ⟨h.1.1, h.2.1, h.2.2.1.1, h.2.2.1.2⟩
end
theorem pnewR_any (S : Int) (w : World) :
    Calls Tryd.prog 17 #[.int .i64 S] w fun e w' => ∃ v, e = .returned (.tuple #[v, .int .i64 (newRE S)]) ∧ RbR w.heap.size (newR S) v w' ∧ Below w.heap.size w w' := by
  have hz := fun w => isSz_any S w
  unfold newRE newR
  cases hs : szR S
  · rw [hs] at hz
    rw [if_neg (by simp), if_neg (by simp)]
    clear hs
    go_enter Tryd.func17, Tryd.ntmps17
    go_wp2_with (go_at_call 42; refine (hz _).mono ?_; rintro e w' ⟨rfl, rfl⟩)
    refine bodyPost_ret (v := .tuple #[.agg #[.int .i64 0, .int .i64 0, .int .i64 0, .slice none 0 0, .bool false], .int .i64 5]) (by simp [results, Tryd.results17, go_sem, *]) rfl ⟨_, rfl, ⟨none, 0, 0, rfl, RdB.none_ _ _⟩, b1 _⟩
  · rw [hs] at hz
    rw [if_pos rfl, if_pos rfl]
    clear hs
    go_enter Tryd.func17, Tryd.ntmps17
    go_wp2_with (go_at_call 42; refine (hz _).mono ?_; rintro e w' ⟨rfl, rfl⟩)
    refine bodyPost_ret (v := .tuple #[.agg #[.int .i64 S, .int .i64 0, .int .i64 0, .slice none 0 0, .bool false], .int .i64 0]) (by simp [results, Tryd.results17, go_sem, *]) rfl ⟨_, rfl, ⟨none, 0, 0, rfl, RdB.none_ _ _⟩, b1 _⟩
set_option maxRecDepth 100000 in
set_option maxHeartbeats 4000000 in
theorem pinsR_any (t : RK) (k : ByteArray) (x : Int) (v vc : Value) (Z : List Int) (a : Int) (w : World) (hv : RdR t v w) (hok : LOk t.L) (hZ : Rd Z vc w) (x0 : -9223372036854775808 ≤ x) (x1 : x ≤ 9223372036854775807) (hk : k.size ≤ maxLen) (hT : TabP w) :
    Calls Tryd.prog 15 #[v, .agg #[.string k, .int .i64 x], vc, .int .i64 a] w fun e w' =>
      ∃ u, e = .returned (.tuple #[u, .int .i64 (insR t k x Z a).2, .int .i64 (insRE t k x a)]) ∧ RbR w.heap.size (insR t k x Z a).1 u w' ∧ Below w.heap.size w w' := by
  obtain ⟨S, T, K, L, s⟩ := t
  obtain ⟨aA, nA, cA, rfl, hr⟩ := hv
  dsimp only at hr hok
  have HR := Lib.hid hr
  have HZ := Lib.hid hZ
  have HT := Lib.hid hT
  have HV := Lib.hid (fun (w' : World) (hb : Below w.heap.size w w') => pvalR_any S T K L s aA nA cA w' (hr.below hb) hok)
  have hit := fun w => item_any k x w hk x0 x1
  have hpo := fun w => isPos_any a w
  have M0 := Lib.hid (MI.new w ⟨S, T, K, L, s⟩ (.slice aA nA cA) k x)
  clear hr hZ hT
  unfold insR insRE
  dsimp only
  by_cases hE : valR S T K L = 0
  · rw [hE] at HV
    rw [if_pos hE, if_pos hE]
    by_cases hF : itemE (byt k) x = 0 ∧ posR a = true
    · have hval := valR_ok hE
      have hi := itemR hF.1
      have hpp := posR_iff hF.2
      rw [hF.1] at hit
      rw [hF.2] at hpo
      rw [if_pos hF, if_pos hF]
      have HVO := Lib.hid (one_val (k := k) hval.s0 hval.s1 hval.ev hi.1 hi.2.1 hi.2.2)
      have HAL := Lib.hid (fun (w' : World) (hb : Below w.heap.size w w') => alone_any k x.toNat S w' (by omega) (by omega) (HT.out.below hb))
      rw [show ((x.toNat : Nat) : Int) = x by omega] at HAL
      have HSQ := Lib.hid (fun (va vb : Value) (w' : World) (ha : RdR ⟨S, T, K, L, s⟩ va w') (hb : RdR (oneR S k x) vb w') (hz : Rd Z vc w') => sum_any ⟨S, T, K, L, s⟩ (oneR S k x) va vb vc Z a w' ha hb hz hval HVO.out hpp.1 hpp.2)
      have HON : Hid (∀ (va : Value) (us : List Value) (u : Value) (B : Nat) (w' : World), OwnL B (aloneL k x.toNat) us u w' → RdR (oneR S k x) (.agg #[.int .i64 S, .int .i64 x, .int .i64 0, u, .bool false]) w') := Lib.hid (fun va us u B w' ho => by
        obtain ⟨a8, c8, rfl⟩ := ho.rd.shape
        exact ⟨a8, _, c8, rfl, ho.rd⟩)
      generalize sumK ⟨S, T, K, L, s⟩ (oneR S k x) Z a = R at *
      generalize aloneL k x.toNat = AL at *
      clear hval hi hE hF hok hpp HVO
      go_enter Tryd.func15, Tryd.ntmps15
      go_wp2_with (first
        | (go_at_call 20; (with_reducible refine (HV.out _ M0.out.bel).mono ?_); rintro e w2 ⟨rfl, hb2⟩; have M2 := Lib.hid (M0.out.go hb2); obtain ⟨⟨p0, p1, p2, p3, p4⟩, ⟨i0, i1⟩, ⟨o0, o1, o2, o3, o4⟩, y0, y1, y2, y3, y4⟩ := M2.out.cells; clear hb2)
        | (go_at_call 33; (with_reducible refine (hit _).mono ?_); rintro e w3 ⟨rfl, hb3⟩; have M3 := Lib.hid (M2.out.go hb3); clear p0 p1 p2 p3 p4 i0 i1 o0 o1 o2 o3 o4 y0 y1 y2 y3 y4; obtain ⟨⟨p0, p1, p2, p3, p4⟩, ⟨i0, i1⟩, ⟨o0, o1, o2, o3, o4⟩, y0, y1, y2, y3, y4⟩ := M3.out.cells; clear hb3)
        | (go_at_call 34; (with_reducible refine (hpo _).mono ?_); rintro e w4 ⟨rfl, rfl⟩))
      have h3 := M3.out.lt
      refine wp_meetX 9 29 11 (fun v wx => v = .int .i64 R.2 ∧ ∃ a8 n8 c8, Hid (FiveS w (w.heap.size + 1 + 1) R.1 (.slice a8 n8 c8) wx)) ?_ ?_
      · intro G hG
        have M3D := Lib.hid (M3.out.go (Below.refl _ _).drew)
        clear p0 p1 p2 p3 p4 i0 i1 o0 o1 o2 o3 o4 y0 y1 y2 y3 y4
        obtain ⟨⟨p0, p1, p2, p3, p4⟩, ⟨i0, i1⟩, ⟨o0, o1, o2, o3, o4⟩, y0, y1, y2, y3, y4⟩ := M3D.out.cells
        have R3D : Hid (RdR ⟨S, T, K, L, s⟩ (.agg #[.int .i64 S, .int .i64 T, .int .i64 K, .slice aA nA cA, .bool s]) w3.drew) := Lib.hid ⟨_, _, _, rfl, HR.out.below M3D.out.bel⟩
        go_region_law (first
          | ((try go_simp); go_at_call 36; (with_reducible refine (HAL.out _ M3D.out.bel).mono ?_); rintro e w5 ⟨us5, u5, rfl, ho5, hb5⟩; have M5 := Lib.hid (M3D.out.go hb5); clear p0 p1 p2 p3 p4 i0 i1 o0 o1 o2 o3 o4 y0 y1 y2 y3 y4; obtain ⟨⟨p0, p1, p2, p3, p4⟩, ⟨i0, i1⟩, ⟨o0, o1, o2, o3, o4⟩, y0, y1, y2, y3, y4⟩ := M5.out.cells; have RA := Lib.hid (R3D.out.below hb5); have RB := Lib.hid (HON.out (.slice none 0 0) _ _ _ _ ho5); clear ho5 hb5)
          | ((try go_simp); go_at_call 35; (with_reducible refine (HSQ.out _ _ _ RA.out RB.out (HZ.out.below M5.out.bel)).mono ?_); rintro e w8 ⟨u8, rfl, ⟨a8, n8, c8, rfl, ho8⟩, hb8⟩; have M8 := Lib.hid (M5.out.go hb8); have O8 := Lib.hid (ho8.mono (B' := w.heap.size + 3) (by have := M5.out.lt; omega)); clear p0 p1 p2 p3 p4 i0 i1 o0 o1 o2 o3 o4 y0 y1 y2 y3 y4 ho8 hb8; obtain ⟨⟨p0, p1, p2, p3, p4⟩, ⟨i0, i1⟩, ⟨o0, o1, o2, o3, o4⟩, y0, y1, y2, y3, y4⟩ := M8.out.cells))
        all_goals
          exact hG _ _ _ ⟨[_, _, _, _, _, _, _, _, _, _, _], rfl, rfl⟩ ⟨rfl, a8, n8, c8, Lib.hid (FiveS.put M8.out.2.2.1 O8.out M8.out.bel (by omega))⟩
      · clear HV hit hpo HAL HSQ HON M2 M0 M3 HR p0 p1 p2 p3 p4 i0 i1 o0 o1 o2 o3 o4 y0 y1 y2 y3 y4
        intro a' wz v hoff hX
        obtain ⟨us, hus, rfl⟩ := hoff
        obtain ⟨rfl, a8, n8, c8, HX⟩ := hX
        obtain ⟨⟨o0, o1, o2, o3, o4⟩, y0, y1, y2, y3, y4⟩ := HX.out.1
        match us, hus with
        | [u0, u1, u2, u3, u4, u5, u6, u7, u8, u9, u10], _ =>
          simp only [List.set_cons_succ, List.set_cons_zero, List.take_succ_cons, List.take_zero, List.drop_succ_cons, List.drop_zero, List.cons_append, List.nil_append]
          go_wp2
          have HX2 := FiveS.put (R := R.1) HX.out.1 HX.out.2.1 HX.out.2.2 (by omega)
          refine bodyPost_ret (v := .tuple #[.agg #[.int .i64 R.1.S, .int .i64 R.1.T, .int .i64 R.1.K, .slice a8 n8 c8, .bool R.1.s], .int .i64 R.2, .int .i64 0]) (by simp [results, Tryd.results15, go_sem, *]) rfl ⟨_, rfl, ⟨a8, n8, c8, rfl, HX2.2.1.mono (by omega)⟩, HX2.2.2⟩
    · rw [if_neg hF, if_neg hF]
      by_cases hI : itemE (byt k) x = 0
      · have hP : posR a = false := by
          cases hp : posR a with
          | false => rfl
          | true => exact absurd ⟨hI, hp⟩ hF
        rw [hI] at hit
        rw [hP] at hpo
        rw [if_pos hI]
        clear hF hI hP
        go_enter Tryd.func15, Tryd.ntmps15
        go_wp2_with (first
          | (go_at_call 20; (with_reducible refine (HV.out _ M0.out.bel).mono ?_); rintro e w2 ⟨rfl, hb2⟩; have M2 := Lib.hid (M0.out.go hb2); obtain ⟨⟨p0, p1, p2, p3, p4⟩, ⟨i0, i1⟩, ⟨o0, o1, o2, o3, o4⟩, y0, y1, y2, y3, y4⟩ := M2.out.cells; clear hb2)
          | (go_at_call 33; (with_reducible refine (hit _).mono ?_); rintro e w3 ⟨rfl, hb3⟩; have M3 := Lib.hid (M2.out.go hb3); clear p0 p1 p2 p3 p4 i0 i1 o0 o1 o2 o3 o4 y0 y1 y2 y3 y4; obtain ⟨⟨p0, p1, p2, p3, p4⟩, ⟨i0, i1⟩, ⟨o0, o1, o2, o3, o4⟩, y0, y1, y2, y3, y4⟩ := M3.out.cells; clear hb3)
          | (go_at_call 34; (with_reducible refine (hpo _).mono ?_); rintro e w4 ⟨rfl, rfl⟩))
        refine bodyPost_ret (v := .tuple #[.agg #[.int .i64 0, .int .i64 0, .int .i64 0, .slice none 0 0, .bool false], .int .i64 0, .int .i64 (5)]) (by simp [results, Tryd.results15, go_sem, *]) rfl ⟨_, rfl, ⟨none, 0, 0, rfl, RdB.none_ _ _⟩, ?_⟩
        have l3 : w.heap.size ≤ w.heap.size + 1 + 1 := by omega
        exact bset (bset (bset (bset (bset M3.out.2.2.2 _ _ _ l3) _ _ _ l3) _ _ _ l3) _ _ _ l3) _ _ _ l3
      · have hF2 : (itemE (byt k) x != 0) = true := by simpa using hI
        rw [if_neg hI]
        clear hF hI
        go_enter Tryd.func15, Tryd.ntmps15
        go_wp2_with (first
          | (go_at_call 20; (with_reducible refine (HV.out _ M0.out.bel).mono ?_); rintro e w2 ⟨rfl, hb2⟩; have M2 := Lib.hid (M0.out.go hb2); obtain ⟨⟨p0, p1, p2, p3, p4⟩, ⟨i0, i1⟩, ⟨o0, o1, o2, o3, o4⟩, y0, y1, y2, y3, y4⟩ := M2.out.cells; clear hb2)
          | (go_at_call 33; (with_reducible refine (hit _).mono ?_); rintro e w3 ⟨rfl, hb3⟩; have M3 := Lib.hid (M2.out.go hb3); clear p0 p1 p2 p3 p4 i0 i1 o0 o1 o2 o3 o4 y0 y1 y2 y3 y4; obtain ⟨⟨p0, p1, p2, p3, p4⟩, ⟨i0, i1⟩, ⟨o0, o1, o2, o3, o4⟩, y0, y1, y2, y3, y4⟩ := M3.out.cells; clear hb3))
        refine bodyPost_ret (v := .tuple #[.agg #[.int .i64 0, .int .i64 0, .int .i64 0, .slice none 0 0, .bool false], .int .i64 0, .int .i64 (itemE (byt k) x)]) (by simp [results, Tryd.results15, go_sem, *]) rfl ⟨_, rfl, ⟨none, 0, 0, rfl, RdB.none_ _ _⟩, ?_⟩
        have l3 : w.heap.size ≤ w.heap.size + 1 + 1 := by omega
        exact bset (bset (bset (bset (bset M3.out.2.2.2 _ _ _ l3) _ _ _ l3) _ _ _ l3) _ _ _ l3) _ _ _ l3
  · have hE2 : (valR S T K L != 0) = true := by simpa using hE
    rw [if_neg hE, if_neg hE]
    clear hE
    go_enter Tryd.func15, Tryd.ntmps15
    go_wp2_with (go_at_call 20; (with_reducible refine (HV.out _ M0.out.bel).mono ?_); rintro e w2 ⟨rfl, hb2⟩; have M2 := Lib.hid (M0.out.go hb2); obtain ⟨⟨p0, p1, p2, p3, p4⟩, ⟨i0, i1⟩, ⟨o0, o1, o2, o3, o4⟩, y0, y1, y2, y3, y4⟩ := M2.out.cells; clear hb2)
    refine bodyPost_ret (v := .tuple #[.agg #[.int .i64 0, .int .i64 0, .int .i64 0, .slice none 0 0, .bool false], .int .i64 0, .int .i64 (valR S T K L)]) (by simp [results, Tryd.results15, go_sem, *]) rfl ⟨_, rfl, ⟨none, 0, 0, rfl, RdB.none_ _ _⟩, ?_⟩
    have l3 : w.heap.size ≤ w.heap.size + 1 + 1 := by omega
    exact bset (bset (bset (bset (bset M2.out.2.2.2 _ _ _ l3) _ _ _ l3) _ _ _ l3) _ _ _ l3) _ _ _ l3
end Go.Proofs.YtdifilhfmbpalaaDoor
