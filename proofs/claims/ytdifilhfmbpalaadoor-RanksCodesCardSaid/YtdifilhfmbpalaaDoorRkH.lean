/- The flipper in memory; the contract of ranks' halve. -/
import Derived.Test.YtdifilhfmbpalaaDoorRkA
import Derived.Test.YtdifilhfmbpalaaDoorRkS
import Derived.Test.YtdifilhfmbpalaaDoorCoins
import Derived.Test.YtdifilhfmbpalaaDoorSat
import Derived.Deep.RegionLaw
import Derived.BigQuiet
namespace Go.Proofs.YtdifilhfmbpalaaDoor
open Go.RowKit
set_option linter.unusedVariables false
set_option linter.unusedSimpArgs false
/-- A flipper in block g. -/
def FlS (g : Nat) (v : Value) (a K : Int) (w : World) : Prop := w.ownsRow g 95 1 (.slice (some ⟨g, 0, none⟩) 3 3) 3 [v, .int .i64 a, .int .i64 K]
theorem FlS.new (v : Value) (a K : Int) (w : World) : FlS w.heap.size v a K (w.alloc (.cells #[v, .int .i64 a, .int .i64 K] 95)) :=
  ⟨rfl, .inr ⟨w.heap.size, 3, #[v, .int .i64 a, .int .i64 K], rfl, Nat.le_refl _, Go.heap_alloc_new w _, Nat.le_refl _, by decide, rfl, rfl⟩⟩
section
variable {g : Nat} {v : Value} {a K : Int} {w w' : World}
theorem FlS.lt (h : FlS g v a K w) : g < w.heap.size := (World.ownsRow.lt h g rfl).2
theorem FlS.cells (h : FlS g v a K w) : (w.cell? ⟨g, 0, none⟩ = some v ∧ w.cell? ⟨g, 1, none⟩ = some (.int .i64 a) ∧ w.cell? ⟨g, 2, none⟩ = some (.int .i64 K)) ∧ w.frozen? ⟨g, 0, none⟩ = false ∧ w.frozen? ⟨g, 1, none⟩ = false ∧ w.frozen? ⟨g, 2, none⟩ = false :=
  ⟨⟨World.ownsRow.cellAt h 0 (by omega), World.ownsRow.cellAt h 1 (by omega), World.ownsRow.cellAt h 2 (by omega)⟩, World.ownsRow.frozenAt h 0, World.ownsRow.frozenAt h 1, World.ownsRow.frozenAt h 2⟩
theorem FlS.keep (h : FlS g v a K w) (hb : w'.heap[g]? = w.heap[g]?) : FlS g v a K w' := row_keep h (fun k hk e => by cases e; exact hb)
theorem FlS.go (h : FlS g v a K w) (hb : Below w.heap.size w w') : FlS g v a K w' := h.keep (hb.block g h.lt)
theorem FlS.put1 (h : FlS g v a K w) (b : Int) : FlS g v b K (w.setCell ⟨g, 1, none⟩ (.int .i64 b)) := (World.ownsRow.stored h 1 (.int .i64 b)).1
theorem FlS.put2 (h : FlS g v a K w) (b : Int) : FlS g v a b (w.setCell ⟨g, 2, none⟩ (.int .i64 b)) := (World.ownsRow.stored h 2 (.int .i64 b)).1
theorem FlS.lone (h : FlS g v a K w) {B : Nat} {M : List ByteArray} {u : Value} (hu : OwnS B M u w) (hl : Lone u w w') : FlS g v a K w' := row_lone h hu (by decide) hl
end
/-- A row of a level has been put in place of level j. -/
theorem OwnL.setG {B g n cap j : Nat} {L : List (List ByteArray)} {us : List Value} {M : List ByteArray} {u : Value} {w w' : World} (h : OwnL B L us (.slice (some ⟨g, 0, none⟩) n cap) w) (hj : j < L.length) (hu : OwnS B M u w') (hb : Below w.heap.size w w') (hf : ∀ k, u.ownBlock = some k → w.heap.size ≤ k) :
    OwnL B (L.set j M) (us.set j u) (.slice (some ⟨g, 0, none⟩) n cap) (w'.setCell ⟨g, j, none⟩ u) := by
  have h' := h.below hb
  obtain ⟨t1, ⟨-, t2⟩, t4⟩ := h'
  have hlen := h.len
  have t3 : ∀ i, i < L.length → ∀ k, (us.getD i nilS).ownBlock = some k → u.ownBlock ≠ some k := fun i hi k hk e => by
    have h1 := hf k e
    have h2 := ((h.2.1.2 i hi).lt hk).2
    omega
  have hg : (Value.slice (some ⟨g, 0, none⟩) n cap).ownBlock = some g := rfl
  have away : ∀ {M : List ByteArray} {x : Value}, OwnS B M x w' → OwnS B M x (w'.setCell ⟨g, j, none⟩ u) := fun hx => hx.keep (fun k hk e => Below.heap_setCell _ ⟨g, j, none⟩ _ _ (fun e' => by subst e'; exact hx.vapart t1 e hg))
  refine ⟨t1.put (by omega) j hu.cell1, ⟨by rw [List.length_set, List.length_set]; exact hlen, fun i hi => ?_⟩, fun a b ha hb hne k hk => ?_⟩
  · rw [List.length_set] at hi
    by_cases hij : j = i
    · subst hij
      rw [getD_set_eq hj, getD_set_eq (by omega)]
      exact away hu
    · rw [getD_set_ne hij, getD_set_ne hij]
      exact away (t2 i hi)
  · rw [List.length_set] at ha hb
    by_cases h1 : j = a
    · subst h1
      rw [getD_set_eq ha] at hk
      rw [getD_set_ne hne]
      exact fun e => t3 b (by omega) k e hk
    · rw [getD_set_ne h1] at hk
      by_cases h2 : j = b
      · subst h2
        rw [getD_set_eq hb]
        exact t3 a (by omega) k hk
      · rw [getD_set_ne h2]
        exact t4 a b ha hb hne k hk
/-- Own levels and a flipper. -/
structure HS (W : World) (gf : Nat) (v : Value) (a K : Int) (g c : Nat) (C : List (List ByteArray)) (us : List Value) (w : World) : Prop where
  fl : FlS gf v a K w
  own : OwnL W.heap.size C us (.slice (some ⟨g, 0, none⟩) C.length c) w
  bel : Below W.heap.size W w
  ge : W.heap.size ≤ gf
section
variable {W : World} {gf : Nat} {v : Value} {a K : Int} {g c : Nat} {C : List (List ByteArray)} {us : List Value} {w w' : World}
theorem HS.go (h : HS W gf v a K g c C us w) (hb : Below w.heap.size w w') : HS W gf v a K g c C us w' := ⟨h.fl.go hb, h.own.below hb, bgo h.bel hb, h.ge⟩
theorem HS.drew (h : HS W gf v a K g c C us w) : HS W gf v a K g c C us w.drew := h.go (Below.refl _ _).drew
theorem HS.row (h : HS W gf v a K g c C us w) {k : Nat} (hk : k < C.length) : OwnS W.heap.size (C.getD k []) (us.getD k nilS) w := h.own.2.1.2 k hk
theorem HS.cell (h : HS W gf v a K g c C us w) {k : Nat} (hk : k < C.length) : W.heap.size ≤ g ∧ g < w.heap.size ∧ w.cell? ⟨g, k, none⟩ = some (us.getD k nilS) ∧ w.frozen? ⟨g, k, none⟩ = false := by
  have hl := h.own.len
  obtain ⟨g', he, -, hb, hlt, hc⟩ := h.own.1.cells (by rw [hl]; omega)
  cases he
  exact ⟨hb, hlt, hc k (by rw [hl]; exact hk)⟩
theorem HS.apart (h : HS W gf v a K g c C us w) : gf ≠ g := by
  intro e
  subst e
  exact row_apart h.fl h.own.1.2 (by decide) (g := gf) rfl rfl
theorem HS.mid (h : HS W gf v a K g c C us w) {k : Nat} (hk : k < C.length) {M : List ByteArray} {u : Value} (hu : OwnS W.heap.size M u w') (hl : Lone (us.getD k nilS) w w') (hf : Fr (us.getD k nilS) u w) :
    w'.cell? ⟨g, k, none⟩ = some (us.getD k nilS) ∧ w'.frozen? ⟨g, k, none⟩ = false := by
  have hl1 := h.own.len
  obtain ⟨t1, -, -⟩ := h.own.turn hk hu hl hf
  obtain ⟨g', he, -, -, -, hc⟩ := t1.cells (by rw [hl1]; omega)
  cases he
  exact hc k (by rw [hl1]; exact hk)
/-- Other levels stay where one is appended to. -/
theorem HS.other (h : HS W gf v a K g c C us w) {k i : Nat} (hk : k < C.length) (hi : i < C.length) (hne : i ≠ k) {M : List ByteArray} {u : Value} (hu : OwnS W.heap.size M u w') (hl : Lone (us.getD k nilS) w w') (hf : Fr (us.getD k nilS) u w) : OwnS W.heap.size (C.getD i []) (us.getD i nilS) w' := (h.own.turn hk hu hl hf).2.1 i hi hne
theorem HS.put (h : HS W gf v a K g c C us w) {k : Nat} (hk : k < C.length) {M : List ByteArray} {u : Value} (hu : OwnS W.heap.size M u w') (hb : Below W.heap.size w w') (hl : Lone (us.getD k nilS) w w') (hf : Fr (us.getD k nilS) u w) :
    HS W gf v a K g c (C.set k M) (us.set k u) (w'.setCell ⟨g, k, none⟩ u) :=
  ⟨(h.fl.lone (h.row hk) hl).keep (Below.heap_setCell _ ⟨g, k, none⟩ _ _ (fun e => h.apart e)), by rw [List.length_set]; exact h.own.set hk hu hl hf, bset (h.bel.trans hb) _ _ _ (h.cell hk).1, h.ge⟩
theorem HS.putN (h : HS W gf v a K g c C us w) {k : Nat} (hk : k < C.length) {M : List ByteArray} {u : Value} (hu : OwnS w.heap.size M u w') (hb : Below w.heap.size w w') :
    HS W gf v a K g c (C.set k M) (us.set k u) (w'.setCell ⟨g, k, none⟩ u) :=
  ⟨(h.fl.go hb).keep (Below.heap_setCell _ ⟨g, k, none⟩ _ _ (fun e => h.apart e)), by rw [List.length_set]; exact h.own.setG hk (hu.mono h.bel.size) hb (fun j hj => (hu.lt hj).1), bset (bgo h.bel hb) _ _ _ (h.cell hk).1, h.ge⟩
theorem HS.put1 (h : HS W gf v a K g c C us w) (b : Int) : HS W gf v b K g c C us (w.setCell ⟨gf, 1, none⟩ (.int .i64 b)) := by
  refine ⟨h.fl.put1 b, ?_, bset h.bel _ _ _ h.ge, h.ge⟩
  have hk : ∀ k, k ≠ gf → (w.setCell ⟨gf, 1, none⟩ (.int .i64 b)).heap[k]? = w.heap[k]? := fun k hk => Below.heap_setCell _ ⟨gf, 1, none⟩ _ _ hk
  exact ⟨h.own.1.keep (fun k _ e => hk k (fun e' => by subst e'; exact row_apart h.fl h.own.1.2 (by decide) (g := k) rfl e)), ⟨h.own.2.1.1, fun j hj => (h.own.2.1.2 j hj).keep (fun k _ e => hk k (fun e' => by subst e'; exact row_apart h.fl (h.own.2.1.2 j hj) (by decide) (g := k) rfl e))⟩, h.own.2.2⟩
theorem HS.put2 (h : HS W gf v a K g c C us w) (b : Int) : HS W gf v a b g c C us (w.setCell ⟨gf, 2, none⟩ (.int .i64 b)) := by
  refine ⟨h.fl.put2 b, ?_, bset h.bel _ _ _ h.ge, h.ge⟩
  have hk : ∀ k, k ≠ gf → (w.setCell ⟨gf, 2, none⟩ (.int .i64 b)).heap[k]? = w.heap[k]? := fun k hk => Below.heap_setCell _ ⟨gf, 2, none⟩ _ _ hk
  exact ⟨h.own.1.keep (fun k _ e => hk k (fun e' => by subst e'; exact row_apart h.fl h.own.1.2 (by decide) (g := k) rfl e)), ⟨h.own.2.1.1, fun j hj => (h.own.2.1.2 j hj).keep (fun k _ e => hk k (fun e' => by subst e'; exact row_apart h.fl (h.own.2.1.2 j hj) (by decide) (g := k) rfl e))⟩, h.own.2.2⟩
end
theorem bitI_cast (C : List Int) (a : Int) : bitI C a = (((bitI C a).toNat : Nat) : Int) := by
  have : 0 ≤ bitI C a := by
    unfold bitI
    split
    · have := bitN_bd C a.toNat; omega
    · decide
  omega
set_option maxRecDepth 100000 in
set_option maxHeartbeats 4000000 in
theorem halve_any (W : World) (gf : Nat) (vc : Value) (Z : List Int) (a K : Int) (g c : Nat) (C : List (List ByteArray)) (us : List Value) (i : Nat) (w : World)
    (h : HS W gf vc a K g c C us w) (hZ : Rd Z vc W) (ha0 : 0 ≤ a) (ha1 : a ≤ 4294967296) (k0 : 0 ≤ K) (k1 : K ≤ 1099511627776) (hi : i + 1 < C.length) (hi2 : i ≤ 40)
    (hn : (C.getD i []).length ≤ 274877906944) (hn2 : (C.getD (i + 1) []).length ≤ 274877906944) :
    Calls Tryd.prog 87 #[.pointer (some ⟨gf, 0, none⟩), .slice (some ⟨g, 0, none⟩) C.length c, .int .i64 (i : Int)] w fun e w' => e = .returned (.tuple #[]) ∧
      ∃ us', HS W gf vc (a + 1) (aS K (2 ^ i)) g c ((C.set (i + 1) (C.getD (i + 1) [] ++ pick (bitI Z a).toNat (C.getD i []))).set i (rst (C.getD i []))) us' w' := by
  have HH := Lib.hid h
  obtain ⟨⟨p0, p1, p2⟩, y0, y1, y2⟩ := h.fl.cells
  obtain ⟨-, hgl, hci, hfi⟩ := h.cell (k := i) (by omega)
  have HR := Lib.hid (h.row (k := i) (by omega))
  obtain ⟨U, hU⟩ : ∃ U, us.getD i nilS = U := ⟨_, rfl⟩
  rw [hU] at hci HR
  have HU := Lib.hid hU
  obtain ⟨au, cu, rfl⟩ := HR.out.rd.shape
  have HZ := Lib.hid (fun w1 (hb : Below W.heap.size W w1) => hZ.below hb)
  have hb1 := bitI_nat Z a
  have hbc := bitI_cast Z a
  obtain ⟨b, hb⟩ : ∃ b, (bitI Z a).toNat = b := ⟨_, rfl⟩
  rw [hb] at hb1 hbc
  have HBI := Lib.hid hb
  have HBC := Lib.hid hbc
  have HI := Lib.hid hi
  have hi3 : i < C.length := by omega
  clear hU hbc hb hZ h
  obtain ⟨l, hl⟩ : ∃ l, C.getD i [] = l := ⟨_, rfl⟩
  rw [hl] at HR hn hci ⊢
  have HLV := Lib.hid hl
  have HU := Lib.hid (HU.out.trans (by rw [hl]))
  clear hl
  rw [HBI.out]
  have hz := Lib.hid ha0
  obtain ⟨P, hP⟩ : ∃ P, P = l.length / 2 := ⟨_, rfl⟩
  have hp1 : (l.length : Int) - (l.length : Int) % 2 = ((P * 2 : Nat) : Int) := by omega
  have HP := Lib.hid hP
  clear hP
  obtain ⟨M, hM⟩ : ∃ M, C.getD (i + 1) [] = M := ⟨_, rfl⟩
  rw [hM] at hn2 ⊢
  obtain ⟨CK, hCK⟩ : ∃ CK : Nat → List (List ByteArray), CK = fun t => C.set (i + 1) (M ++ pickn b l t) := ⟨_, rfl⟩
  have HC0 : Hid (CK 0 = C) := Lib.hid (by
    subst hCK
    show C.set (i + 1) (M ++ pickn b l 0) = C
    rw [show pickn b l 0 = [] from rfl, List.append_nil]
    refine ext_getD (by rw [List.length_set]) (fun j hj => ?_)
    by_cases hij : i + 1 = j
    · subst hij; rw [getD_set_eq hi, hM]
    · rw [getD_set_ne hij])
  have HCL : Hid (∀ t, (CK t).length = C.length) := Lib.hid (fun t => by subst hCK; exact List.length_set)
  have HCI : Hid (∀ t, (CK t).getD i [] = l) := Lib.hid (fun t => by subst hCK; show (C.set (i + 1) (M ++ pickn b l t)).getD i [] = l; rw [getD_set_ne (by omega)]; exact HLV.out)
  have HCJ : Hid (∀ t, (CK t).getD (i + 1) [] = M ++ pickn b l t) := Lib.hid (fun t => by subst hCK; exact getD_set_eq hi)
  have HCS : Hid (∀ t, (CK t).set (i + 1) ((M ++ pickn b l t) ++ [l.getD (b + 2 * t) ByteArray.empty]) = CK (t + 1)) := Lib.hid (fun t => by subst hCK; show (C.set (i + 1) _).set (i + 1) _ = C.set (i + 1) _; rw [List.set_set, pickn_succ, List.append_assoc])
  have HCP : Hid (CK P = C.set (i + 1) (M ++ pick b l)) := Lib.hid (by subst hCK; show C.set (i + 1) (M ++ pickn b l P) = _; rw [HP.out]; rfl)
  clear hCK hM
  rw [← HCP.out]
  have HBT : Hid (∀ n, Calls Tryd.prog 104 #[vc, .int .i64 a] (w.drewN n) fun e w'' => e = .returned (.int .i64 (b : Int)) ∧ ∃ m, w'' = w.drewN m) := Lib.hid (fun n => by
    refine (bit_any Z vc a (w.drewN n) (by omega) (by omega) (HZ.out _ (below_drewN HH.out.bel _))).mono ?_
    rintro e w' ⟨rfl, m, rfl⟩
    exact ⟨by rw [HBC.out], _, by rw [World.drewN_drewN]⟩)
  go_enter Tryd.func87, Tryd.ntmps87
  go_wp2
  go_quiet ((go_at_call 104; exact HBT.out _))
  have HJ0 : Hid (HS W gf vc a K g c (CK 0) us (w.drewN nq)) := Lib.hid (by rw [HC0.out]; exact HH.out.go (below_drewN (Below.refl _ _) nq))
  clear p0 p1 p2 y0 y1 y2 hgl hci hfi HR HH HBT
  go_wp2
  go_loopw [8] (fun k wr => ∃ (t : Nat) (us1 : List Value), t ≤ P ∧ k = .int .i64 ((b + 2 * t : Nat) : Int) ∧ Hid (us1.getD i nilS = .slice au l.length cu) ∧ Hid (HS W gf vc a K g c (CK t) us1 wr)) (fun k _ => 2 * P + 2 - (intOf k).toNat)
  case atStart => exact ⟨0, us, by omega, by simp, HU, HJ0⟩
  case round =>
    clear HJ0
    obtain ⟨t, us1, ht, rfl, HU1, HJ⟩ := hrel
    have hplen : P * 2 ≤ l.length := by have := HP.out; omega
    by_cases hlt : t < P
    · have hlt2 : (b : Int) + 2 * (t : Int) < (P : Int) * 2 := by omega
      have hr1 := HJ.out.row (k := i) (by rw [HCL.out]; omega)
      rw [HCI.out, HU1.out] at hr1
      obtain ⟨bk, ok, rfl, hbk, hck⟩ := hr1.rd.cell (k := b + 2 * t) (by omega)
      have hz2 := HCS.out t
      have HMN : Hid ((M ++ pickn b l t).length ≤ 549755813888) := Lib.hid (by rw [List.length_append, pickn_len]; omega)
      have hl2 : b + 2 * t < l.length := by omega
      generalize l.getD (b + 2 * t) ByteArray.empty = x at *
      have HCS1 := Lib.hid hz2
      have HCJ1 := Lib.hid (HCJ.out t)
      obtain ⟨N, hN⟩ : ∃ N, M ++ pickn b l t = N := ⟨_, rfl⟩
      rw [hN] at HMN HCS1 HCJ1
      obtain ⟨-, hgl, hc1, hf1⟩ := HJ.out.cell (k := i + 1) (by rw [HCL.out]; omega)
      obtain ⟨U1, hU1⟩ : ∃ U, us1.getD (i + 1) nilS = U := ⟨_, rfl⟩
      rw [hU1] at hc1
      have HU2 := Lib.hid hU1
      have HGO := Lib.hid (fun (w' : World) (hb : Below wr.heap.size wr w') => HJ.out.go hb)
      have HIL : Hid (i + 1 < (CK t).length) := Lib.hid (by rw [HCL.out]; exact hi)
      have HOW := Lib.hid (fun (w' : World) (hb : Below wr.heap.size wr w') => (HJ.out.go hb).row (k := i + 1) HIL.out)
      rw [HCJ1.out, HU2.out] at HOW
      have HSZ : Hid (W.heap.size ≤ wr.heap.size) := Lib.hid HJ.out.bel.size
      have HSZ2 : Hid (∀ w' : World, Below wr.heap.size wr w' → W.heap.size ≤ w'.heap.size) := Lib.hid (fun w' hb => Nat.le_trans HJ.out.bel.size hb.size)
      have hwr : IntKind.i64.wrap ((i : Int) + 1) = (i : Int) + 1 := by rw [IntKind.wrap_i64]; omega
      have hw2 : ((i : Int) + 1).toNat = i + 1 := by omega
      have hw3 : (0 : Int) ≤ (i : Int) + 1 := by omega
      have hw5 : (0 : Int) ≤ (b : Int) + 2 * (t : Int) := by omega
      have hw6 : (b : Int) + 2 * (t : Int) < (l.length : Int) := by omega
      have hw7 : ((b : Int) + 2 * (t : Int)).toNat = b + 2 * t := by omega
      have hw4 : (i : Int) + 1 < (C.length : Int) := by omega
      have HPUT : Hid (∀ (w0 w1 : World) (v1 : Value), Below wr.heap.size wr w0 → OwnS W.heap.size (N ++ [x]) v1 w1 → Below W.heap.size w0 w1 → Lone U1 w0 w1 → Fr U1 v1 w0 →
          (w1.cell? ⟨g, i + 1, none⟩ = some U1 ∧ w1.frozen? ⟨g, i + 1, none⟩ = false) ∧ HS W gf vc a K g c (CK (t + 1)) (us1.set (i + 1) v1) (w1.setCell ⟨g, i + 1, none⟩ v1)) := Lib.hid (fun w0 w1 v1 hb0 ho hb hl hf => by
        have hj := HGO.out w0 hb0
        subst hU1
        have hm := hj.mid (k := i + 1) HIL.out ho hl hf
        have hp := hj.put (k := i + 1) HIL.out ho hb hl hf
        rw [← hN, hz2] at hp
        exact ⟨hm, hp⟩)
      clear hz2 hN hU1 hr1
      go_wp2
      go_region_law (refine step_appF rfl _ _ _ rfl W.heap.size N [x] U1 _ rfl rfl (HOW.out _ (by first | exact b1 _ | exact (Below.refl _ _).drew.trans (b1 _) | exact (b1 _).drew)) (by first | exact (OwnS.one x _).rd.src | exact ((OwnS.one x _).rd.below (Below.refl _ _).drew).src) (HSZ2.out _ (by first | exact b1 _ | exact (Below.refl _ _).drew.trans (b1 _) | exact (b1 _).drew)) (by have := HMN.out; simp; omega) ?_; (intro v1 w1 ho1 hb1 hl1 hf1; obtain ⟨a1, c1, rfl⟩ := ho1.rd.shape; obtain ⟨⟨hx1, hxf1⟩, hput⟩ := HPUT.out _ w1 _ (by first | exact b1 _ | exact (Below.refl _ _).drew.trans (b1 _) | exact (b1 _).drew) ho1 hb1 hl1 hf1; have J1 := Lib.hid hput; clear ho1 hb1 hl1 hf1 hput))
      all_goals
        go_wp2
        exact ⟨⟨t + 1, us1.set (i + 1) (.slice a1 (N.length + 1) c1), by omega, by (congr 1 <;> omega), Lib.hid (by rw [getD_set_ne (by omega)]; exact HU1.out), Lib.hid (by have h := J1.out; simp only [List.length_append, List.length_singleton] at h; exact h)⟩, by simp [intOf]; omega⟩
    · obtain rfl : t = P := by omega
      have hnlt : ¬ (b : Int) + 2 * (t : Int) < (t : Int) * 2 := by omega
      have hr1 := HJ.out.row (k := i) (by rw [HCL.out]; omega)
      rw [HCI.out, HU1.out] at hr1
      have q := tlS_run hr1.rd (t * 2) (by omega) (by omega)
      rw [show (((t * 2 : Nat)) : Int) = (t : Int) * 2 by omega] at q
      have HTL := Lib.hid (cloneS_any (l.drop (t * 2)) (tlS (.slice au l.length cu) (t * 2)) wr (hr1.rd.tl (t * 2) (by omega)) (by rw [List.length_drop]; omega))
      obtain ⟨UT, hUT⟩ : ∃ UT, tlS (.slice au l.length cu) (t * 2) = UT := ⟨_, rfl⟩
      rw [hUT] at q HTL
      clear hUT hr1
      go_wp2_with (go_at_call 105; refine HTL.out.mono ?_; rintro e w2 ⟨u, rfl, ho2, hb2⟩; obtain ⟨-, hg2, hc2, hf2⟩ := (HJ.out.go hb2).cell (k := i) (by rw [HCL.out]; exact hi3); obtain ⟨a2, c2, rfl⟩ := ho2.rd.shape; have j2 := HJ.out.putN (k := i) (by rw [HCL.out]; exact hi3) ho2 hb2; rw [List.length_drop] at j2; have J2 := Lib.hid j2; clear ho2 hb2 j2; obtain ⟨⟨p0, p1, p2⟩, y0, y1, y2⟩ := J2.out.fl.cells)
      have J3 := Lib.hid (J2.out.put1 (a + 1))
      clear p0 p1 p2 y0 y1 y2 J2 hc2 hf2
      generalize (w2.setCell ⟨g, i, none⟩ (Value.slice a2 (l.length - t * 2) c2)).setCell ⟨gf, 1, none⟩ (.int .i64 (a + 1)) = w3 at *
      have HAD : Hid (∀ w1, Calls Tryd.prog 67 #[.int .i64 K, .int .i64 (2 ^ i), .int .i64 1099511627776] w1 fun e w' => e = .returned (.tuple #[.int .i64 (aS K (2 ^ i)), .bool (aF K (2 ^ i))]) ∧ w1 = w') := Lib.hid (fun w1 => by
        have hp := pow40 hi2
        have e : (2 : Int) ^ i = ((2 ^ i : Nat) : Int) := by simp
        rw [e]
        generalize 2 ^ i = q at *
        exact add_any K q 1099511627776 w1 (by omega) (by omega) (by omega) (by omega) (by decide) (by decide))
      have hsh : IntKind.i64.wrap ((1 : Int) * 2 ^ i) = 2 ^ i := by
        have h := wr_mul 1 i (by have := pow40 hi2; omega)
        simpa using h
      have hsh2 : IntKind.i64.wrap ((2 : Int) ^ i) = 2 ^ i := by rw [Int.one_mul] at hsh; exact hsh
      have J3D := Lib.hid J3.out.drew
      obtain ⟨⟨p0, p1, p2⟩, y0, y1, y2⟩ := J3D.out.fl.cells
      go_region_law ((try go_simp); go_at_call 67; refine (HAD.out _).mono ?_; rintro e w4 ⟨rfl, rfl⟩)
      all_goals
        go_wp2
        refine bodyPost_end (v := .tuple #[]) (by simp [results, Tryd.results87, go_sem]) rfl ⟨rfl, us1.set i (.slice a2 (l.length - t * 2) c2), ?_⟩
        have h := J3.out.put2 (aS K (2 ^ i))
        rw [show rst l = l.drop (t * 2) by unfold rst; rw [HP.out]]
        first
          | exact h.go (Below.refl _ _).drew
          | exact h
end Go.Proofs.YtdifilhfmbpalaaDoor
