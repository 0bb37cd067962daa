/- RIns: in one text. -/
import Derived.Test.YtjibbnknliamkaaGreatDoorPg05
import Derived.Test.YtjibbnknliamkaaGreatDoorPg08
import Derived.OneCell
namespace Go.Proofs.YtjibbnknliamkaaGreatDoor
open Go.RowKit
set_option linter.unusedVariables false
set_option linter.unusedSimpArgs false
theorem insA_full {S : Int} {L : List Ent} {k : ByteArray} {x : Int} {n : Nat} (h : hasK L k = false) (hl : L.length = n + 1) (hS : (L.length : Int) = S) : insA S L k x = L.set n (entOf k (tS (leastI S L) x) (leastI S L)) := by
  unfold insA
  rw [if_neg (by rw [h]; simp), show min L.length (S - 1).toNat = n by omega]
  rw [List.set_eq_take_append_cons_drop, if_pos (by omega), List.drop_of_length_le (by omega)]
theorem insA_room {S : Int} {L : List Ent} {k : ByteArray} {x : Int} (h : hasK L k = false) (hS : (L.length : Int) < S) (x0 : 1 ≤ x) (x1 : x ≤ 4294967295) : insA S L k x = L ++ [⟨k, x, 0⟩] ∧ insF S L k x = false := by
  have hl : leastI S L = 0 := by unfold leastI; rw [if_pos (.inr (by omega))]
  have ht : tS 0 x = x := by unfold tS satN nat0; split <;> omega
  unfold insA insF
  rw [if_neg (by rw [h]; simp), if_neg (by rw [h]; simp), hl, ht, List.take_of_length_le (by omega)]
  refine ⟨?_, ?_⟩
  · unfold entOf
    rw [show min (0 : Int) (x - 1) = 0 by omega]
  · unfold tF_2 satF nat0
    simp
    omega
theorem insF_full {S : Int} {L : List Ent} {k : ByteArray} {x : Int} (h : hasK L k = false) : insF S L k x = tF_2 (leastI S L) x := by
  unfold insF
  rw [if_neg (by rw [h]; simp)]
/-- The struct of a summary as a row of its own type. -/
def TR (g : Nat) (S T : Int) (v : Value) (s : Bool) (w : World) : Prop := w.ownsRow 0 41 4 (.slice (some ⟨g, 0, none⟩) 1 1) 1 [.int .i64 S, .int .i64 T, v, .bool s]
theorem TR.keep {g : Nat} {S T : Int} {v : Value} {s : Bool} {w w' : World} (h : TR g S T v s w) (hb : w'.heap[g]? = w.heap[g]?) : TR g S T v s w' := by
  obtain ⟨h1, h2⟩ := h
  refine ⟨h1, ?_⟩
  rcases h2 with ⟨he, _⟩ | ⟨g', cap, cur, he, hg, hc, r⟩
  · cases he
  · have e := he
    simp only [Value.slice.injEq, Option.some.injEq, Addr.mk.injEq] at e
    obtain ⟨⟨rfl, _⟩, _⟩ := e
    exact .inr ⟨g, cap, cur, he, hg, hb.trans hc, r⟩
theorem TR.lt {g : Nat} {S T : Int} {v : Value} {s : Bool} {w : World} (h : TR g S T v s w) : g < w.heap.size := (World.ownsRow.lt h g rfl).2
theorem TR.cells {g : Nat} {S T : Int} {v : Value} {s : Bool} {w : World} (h : TR g S T v s w) :
    (w.cell? ⟨g, 0, none⟩ = some (.int .i64 S) ∧ w.cell? ⟨g, 1, none⟩ = some (.int .i64 T) ∧ w.cell? ⟨g, 2, none⟩ = some v ∧ w.cell? ⟨g, 3, none⟩ = some (.bool s)) ∧ (w.frozen? ⟨g, 0, none⟩ = false ∧ w.frozen? ⟨g, 1, none⟩ = false ∧ w.frozen? ⟨g, 2, none⟩ = false ∧ w.frozen? ⟨g, 3, none⟩ = false) :=
  ⟨⟨World.ownsRow.cellAt h 0 (by omega), World.ownsRow.cellAt h 1 (by omega), World.ownsRow.cellAt h 2 (by omega), World.ownsRow.cellAt h 3 (by omega)⟩, World.ownsRow.frozenAt h 0, World.ownsRow.frozenAt h 1, World.ownsRow.frozenAt h 2, World.ownsRow.frozenAt h 3⟩
theorem TR.set0 {g : Nat} {S T : Int} {v : Value} {s : Bool} {w : World} (h : TR g S T v s w) (c : Int) : TR g c T v s (w.setCell ⟨g, 0, none⟩ (.int .i64 c)) := (World.ownsRow.stored h 0 (.int .i64 c)).1
theorem TR.set1 {g : Nat} {S T : Int} {v : Value} {s : Bool} {w : World} (h : TR g S T v s w) (c : Int) : TR g S c v s (w.setCell ⟨g, 1, none⟩ (.int .i64 c)) := (World.ownsRow.stored h 1 (.int .i64 c)).1
theorem TR.set2 {g : Nat} {S T : Int} {v : Value} {s : Bool} {w : World} (h : TR g S T v s w) (u : Value) : TR g S T u s (w.setCell ⟨g, 2, none⟩ u) := (World.ownsRow.stored h 2 u).1
theorem TR.set3 {g : Nat} {S T : Int} {v : Value} {s : Bool} {w : World} (h : TR g S T v s w) (r : Bool) : TR g S T v r (w.setCell ⟨g, 3, none⟩ (.bool r)) := (World.ownsRow.stored h 3 (.bool r)).1
theorem TR.new (S T : Int) (v : Value) (s : Bool) (w : World) : TR w.heap.size S T v s (w.alloc (.cells #[.int .i64 S, .int .i64 T, v, .bool s] 41)) :=
  ⟨rfl, .inr ⟨w.heap.size, 1, #[.int .i64 S, .int .i64 T, v, .bool s], rfl, Nat.zero_le _, Go.heap_alloc_new w _, Nat.le_refl _, by decide, rfl, rfl⟩⟩
/-- Entries of the call's own never lie in a summary's block. -/
theorem TR.apart {g B : Nat} {S T : Int} {v0 v : Value} {s : Bool} {L : List Ent} {w : World} (h : TR g S T v0 s w) (ho : OwnE B L v w) : v.ownBlock ≠ some g := by
  intro e
  rcases ho.2.2 with ⟨rfl, _⟩ | ⟨g', cap, cur, rfl, _, hc, _⟩
  · cases e
  · injection e with e
    have e : g' = g := e
    subst e
    rcases h.2 with ⟨he, _⟩ | ⟨g2, cap2, cur2, he, _, hc2, _⟩
    · cases he
    · simp only [Value.slice.injEq, Option.some.injEq, Addr.mk.injEq] at he
      obtain ⟨⟨rfl, _⟩, _⟩ := he
      rw [hc] at hc2
      injection hc2 with hc2
      injection hc2 with _ ht _
      cases ht
/-- A summary under way in block g; its entries are the call's own, in another block. -/
def UI (B : Nat) (L : List Ent) (g : Nat) (S T : Int) (v : Value) (s : Bool) (w : World) : Prop := TR g S T v s w ∧ OwnE B L v w ∧ B ≤ g
theorem UI.go {B : Nat} {L : List Ent} {g : Nat} {S T : Int} {v : Value} {s : Bool} {w w' : World} (h : UI B L g S T v s w) (hb : Below w.heap.size w w') : UI B L g S T v s w' := ⟨h.1.keep (hb.block _ h.1.lt), h.2.1.below hb, h.2.2⟩
theorem OwnE.away {B : Nat} {L : List Ent} {v : Value} {w : World} (h : OwnE B L v w) {g : Nat} (hg : v.ownBlock ≠ some g) (o : Nat) (u : Value) : OwnE B L v (w.setCell ⟨g, o, none⟩ u) := ⟨h.1, ownsRow_setCell_other h.2 hg u⟩
theorem UI.setTS {B : Nat} {L : List Ent} {g : Nat} {S T : Int} {v : Value} {s : Bool} {w : World} (h : UI B L g S T v s w) (t : Int) (r : Bool) : UI B L g S t v r ((w.setCell ⟨g, 1, none⟩ (.int .i64 t)).setCell ⟨g, 3, none⟩ (.bool r)) :=
  ⟨(h.1.set1 t).set3 r, (h.2.1.away (h.1.apart h.2.1) _ _).away (h.1.apart h.2.1) _ _, h.2.2⟩
theorem UI.newA {B : Nat} {L : List Ent} {S T : Int} {a : Option Addr} {n cap : Nat} {s : Bool} {w : World} (h : OwnE B L (.slice a n cap) w) (hB : B ≤ w.heap.size) :
    UI B L w.heap.size S T (.slice a n cap) s (w.alloc (.cells #[.int .i64 S, .int .i64 T, .slice a n cap, .bool s] 41)) := ⟨TR.new _ _ _ _ _, h.alloc _, hB⟩
theorem UI.newB {B : Nat} {L : List Ent} {S T : Int} {v0 : Value} {a : Option Addr} {n cap : Nat} {s : Bool} {w : World} (hz : TR B 0 0 v0 false w) (h : OwnE (B + 1) L (.slice a n cap) w) :
    UI B L B S T (.slice a n cap) s ((((w.setCell ⟨B, 0, none⟩ (.int .i64 S)).setCell ⟨B, 1, none⟩ (.int .i64 T)).setCell ⟨B, 2, none⟩ (.slice a n cap)).setCell ⟨B, 3, none⟩ (.bool s)) :=
  ⟨(((hz.set0 S).set1 T).set2 _).set3 s, ((((h.mono (Nat.le_succ _)).away (hz.apart h) _ _).away (hz.apart h) _ _).away (hz.apart h) _ _).away (hz.apart h) _ _, Nat.le_refl _⟩
theorem item_two {k : List Int} {x : Int} (h : itemE k x = 0) : x ≤ 4294967295 := by
  unfold itemE at h
  split at h
  · cases h
  · split at h
    · cases h
    · omega
theorem bool3 (a b : Bool) : (a = false ∧ b = false) ∨ (a = false ∧ b = true) ∨ a = true := by cases a <;> cases b <;> simp
theorem alloc_size (w : World) (o : Obj) : w.heap.size + 1 ≤ (w.alloc o).heap.size := by simp
theorem alloc_size2 (w : World) (o : Obj) : w.heap.size + 1 ≤ (w.alloc o).drew.heap.size := alloc_size w o
/-- append, onto entries of the call's own: just its own row turns. -/
theorem wp_appG {w : World} {ops : Array Oper} {rest : List Oper} {o : Oper} {a : Act} {Q : Exit → Act → World → Prop} (hgd : o.guard = none) (s x : Operand) (tx : TypeId)
    (ho : o.op = .call { callee := .builtin .append, args := #[s, x], argTypes := #[39, tx] }) (B : Nat) (L M : List Ent) (v u : Value) (hs : a.eval s = v) (hx : a.eval x = u)
    (hown : OwnE B L v w) (hsrc : FromE M tx u w) (hB : B ≤ w.heap.size) (hn : L.length + M.length ≤ 1099511627776)
    (h : ∀ v' w', OwnE B (L ++ M) v' w' → Below B w w' → (∀ g, g < w.heap.size → v.ownBlock ≠ some g → w'.heap[g]? = w.heap[g]?) → wpList Tryz.prog ops Q rest (a.put o.dst v') w') : wpList Tryz.prog ops Q (o :: rest) a w := by
  obtain ⟨i0, hi, hz0, hz1, hz2⟩ := info_parts info_ent
  refine wpList_own_src w hgd s x 39 tx ho B 64 i0 (.agg #[.string ByteArray.empty, .int .i64 0, .int .i64 0]) 3 32 Tryz.underlying39 hi hz0 hz1 hz2 rfl (by decide) v L.length (cellsE L) hs hown.2 u M.length (cellsE M) hx hsrc.2 (by unfold maxLen; omega) (by omega) hB ?_
  intro v' w' h1 h2
  refine h v' w' ⟨hown.1.app hsrc.1, ?_⟩ ((Below.refl _ _).grown h2 hB (fun k hk => (World.ownsRow.lt hown.2 k hk).1)) (fun g hg hne => h2.block g hg (Ne.symm hne))
  rw [List.length_append, cellsE_app]
  exact h1
set_option maxRecDepth 100000 in
set_option maxHeartbeats 4000000 in
theorem rins_any (S T x : Int) (L : List Ent) (s : Bool) (k : ByteArray) (a : Option Addr) (n cap : Nat) (w : World) (S0 : -9223372036854775808 ≤ S) (S1 : S ≤ 9223372036854775807) (T0 : -9223372036854775808 ≤ T) (T1 : T ≤ 9223372036854775807) (x0 : -9223372036854775808 ≤ x) (x1 : x ≤ 9223372036854775807) (hk : k.size ≤ maxLen) (hr : RdE L (.slice a n cap) w) (hn : L.length ≤ 549755813888) :
    Calls Tryz.prog 59 #[.agg #[.int .i64 S, .int .i64 T, .slice a n cap, .bool s], .agg #[.string k, .int .i64 x]] w fun e w' =>
      ∃ v, e = .returned (.tuple #[v, .int .i64 (insE ⟨S, T, L, s⟩ k x)]) ∧ OwnT w.heap.size (insTop ⟨S, T, L, s⟩ k x) v w' ∧ Below w.heap.size w w' := by
  obtain ⟨a', cap', he⟩ := hr.shape
  simp only [Value.slice.injEq] at he
  obtain ⟨rfl, rfl, rfl⟩ := he
  have hy := hr.1
  have HR := Lib.hid hr
  have HV := Lib.hid (fun (w' : World) (hb : Below w.heap.size w w') => rval_any S T L s a L.length cap w' S0 S1 T0 T1 (hr.below hb) (by omega))
  have HK := Lib.hid hk
  have hit := fun w => ritem_any k x w hk x0 x1
  have M0 := Lib.hid (Mem3.new w S T (.slice a L.length cap) s k x)
  clear hr hk
  unfold insE insTop
  dsimp only
  by_cases hE : valE S T L = 0
  · have hval := valE_ok hE
    rw [hE] at HV ⊢
    rw [if_neg (by decide), if_neg (by decide)]
    by_cases hF : itemE (byt k) x = 0
    · rw [hF] at hit ⊢
      rw [if_neg (by decide)]
      have hsm := hval.small
      have HSUM := Lib.hid (fun w => rsum_any_2 T x w T0 T1 x0 x1)
      go_enter Tryz.func59, Tryz.ntmps59
      go_wp2_with (first
        | (go_at_call 77; refine (HV.out _ M0.out.2.2.2).mono ?_; rintro e w2 ⟨rfl, hb2⟩; have M2 := Lib.hid (M0.out.go hb2); obtain ⟨⟨p0, p1, p2, p3⟩, ⟨i0, i1⟩, ⟨o0, o1, o2, o3⟩, g0, g1, g2, g3⟩ := M2.out.cells; clear hb2)
        | (go_at_call 54; refine (hit _).mono ?_; rintro e w3 ⟨rfl, hb3⟩; have M3 := Lib.hid (M2.out.go hb3); clear p0 p1 p2 p3 i0 i1 o0 o1 o2 o3 g0 g1 g2 g3; obtain ⟨⟨p0, p1, p2, p3⟩, ⟨i0, i1⟩, ⟨o0, o1, o2, o3⟩, g0, g1, g2, g3⟩ := M3.out.cells; clear hb3))
      have HW3 : Hid (w.heap.size + 3 ≤ w3.heap.size) := Lib.hid (by have := M3.out.lt; omega)
      have HSR : Hid (∀ w' : World, Below w3.heap.size w3 w' → FromE L 39 (.slice a L.length cap) w') := Lib.hid (fun w' hb => ((HR.out.below M3.out.2.2.2).below hb).src)
      have HLL : Hid (L.length ≤ 32) := Lib.hid hsm
      clear HV hit M0
      have HZ : Hid (∀ w' : World, Below (w3.heap.size + 1) (w3.alloc (.cells #[.int .i64 0, .int .i64 0, .slice none 0 0, .bool false] 41)) w' → TR w3.heap.size 0 0 (.slice none 0 0) false w' ∧ Below w3.heap.size w3 w') := Lib.hid (fun w' hb => ⟨(TR.new 0 0 (.slice none 0 0) false w3).keep (hb.block _ (Nat.lt_succ_self _)), (b1 _).trans (hb.mono (Nat.le_succ _))⟩)
      have MA := Lib.hid (M3.out.go (b1 (.cells #[.int .i64 0, .int .i64 0, .slice none 0 0, .bool false] 41)))
      obtain ⟨⟨pa0, pa1, pa2, pa3⟩, -⟩ := MA.out.cells
      refine wp_meetV 8 24 (fun v wx => ∃ (g : Nat) (a4 : Option Addr) (cap4 : Nat), v = .pointer (some ⟨g, 0, none⟩) ∧ Hid (UI w3.heap.size L g S 0 (.slice a4 L.length cap4) s wx ∧ Mem3 w S T (.slice a L.length cap) s k x wx)) ?_ ?_
      · intro G hG
        -- WAYS
        go_region_law (first
          | (refine step_appE rfl _ _ _ rfl (w3.heap.size + 1) [] L _ _ rfl rfl (OwnE.empty _ _) (HSR.out _ (by first | exact Below.refl _ _ | exact (Below.refl _ _).drew | exact b1 _ | exact (b1 _).drew | exact (Below.refl _ _).drew.trans (b1 _))) ?_ ?_ ?_; (with_reducible_and_instances first | exact alloc_size _ _ | exact alloc_size2 _ _); (have := HLL.out; simp; omega); intro v4 w4 ho4 hb4; rw [List.nil_append] at ho4; obtain ⟨a4, cap4, rfl⟩ := ho4.rd.shape; have HO4 := Lib.hid ho4; have HZ4 := Lib.hid (HZ.out w4 (by first | exact hb4 | exact (Below.refl _ _).drew.trans hb4)); obtain ⟨⟨z0, z1, z2, z3⟩, y0, y1, y2, y3⟩ := HZ4.out.1.cells; have M4 := Lib.hid (M3.out.keep (HZ4.out.2.mono HW3.out)); obtain ⟨⟨pb0, pb1, pb2, pb3⟩, -⟩ := M4.out.cells; clear ho4 hb4)
          | (refine step_appE rfl _ _ _ rfl w3.heap.size [] L _ _ rfl rfl (OwnE.empty _ _) (HSR.out _ (by first | exact Below.refl _ _ | exact (Below.refl _ _).drew | exact b1 _ | exact (b1 _).drew | exact (Below.refl _ _).drew.trans (b1 _))) ?_ ?_ ?_; (first | exact Nat.le_refl _ | simp); (have := HLL.out; simp; omega); intro v4 w4 ho4 hb4; rw [List.nil_append] at ho4; obtain ⟨a4, cap4, rfl⟩ := ho4.rd.shape; have HO4 := Lib.hid ho4; have HB4 : Hid (Below w3.heap.size w3 w4) := Lib.hid (by first | exact hb4 | exact (Below.refl _ _).drew.trans hb4); have M4 := Lib.hid (M3.out.keep (HB4.out.mono HW3.out)); obtain ⟨⟨pb0, pb1, pb2, pb3⟩, -⟩ := M4.out.cells; have MC := Lib.hid (M4.out.go (b1 (.cells #[.int .i64 0, .int .i64 0, .slice none 0 0, .bool false] 41))); obtain ⟨⟨pc0, pc1, pc2, pc3⟩, -⟩ := MC.out.cells; clear ho4 hb4))
        all_goals
          refine hG _ _ _ ⟨[_, _, _, _, _, _, _, _, _, _, _, _, _, _, _, _, _, _, _, _, _, _, _, _], rfl, rfl⟩ ?_
          first
            | (with_reducible exact ⟨_, _, _, rfl, Lib.hid ⟨UI.newA HO4.out HB4.out.size, M4.out.go (b1 _)⟩⟩)
            | (with_reducible exact ⟨_, _, _, rfl, Lib.hid ⟨UI.newB HZ4.out.1 HO4.out, M4.out.keep (bsetB (bsetB (bsetB (bsetB (Below.refl _ _) _ _ _ HW3.out) _ _ _ HW3.out) _ _ _ HW3.out) _ _ _ HW3.out)⟩⟩)
            | (with_reducible exact ⟨_, _, _, rfl, Lib.hid ⟨(UI.newA HO4.out HB4.out.size).go (Below.refl _ _).drew, (M4.out.go (b1 _)).go (Below.refl _ _).drew⟩⟩)
            | (with_reducible exact ⟨_, _, _, rfl, Lib.hid ⟨(UI.newB HZ4.out.1 HO4.out).go (Below.refl _ _).drew, (M4.out.keep (bsetB (bsetB (bsetB (bsetB (Below.refl _ _) _ _ _ HW3.out) _ _ _ HW3.out) _ _ _ HW3.out) _ _ _ HW3.out)).go (Below.refl _ _).drew⟩⟩)
      · clear MA pa0 pa1 pa2 pa3 HZ HSR p0 p1 p2 p3 i0 i1 o0 o1 o2 o3 g0 g1 g2 g3
        intro a' wz v hoff hR
        obtain ⟨us, hus, rfl⟩ := hoff
        obtain ⟨g, a4, cap4, rfl, HU⟩ := hR
        match us, hus with
        | [u9, u10, u11, u12, u13, u14, u15, u16, u17, u18, u19, u20, u21, u22, u23, u24, u25, u26, u27, u28, u29, u30, u31, u32], _ =>
          simp only [List.take_succ_cons, List.take_zero, List.drop_succ_cons, List.drop_zero, List.cons_append, List.nil_append]
          obtain ⟨⟨p0, p1, p2, p3⟩, ⟨i0, i1⟩, ⟨o0, o1, o2, o3⟩, g0, g1, g2, g3⟩ := HU.out.2.cells
          obtain ⟨⟨q0, q1, q2, q3⟩, r0, r1, r2, r3⟩ := HU.out.1.1.cells
          have hx1 : 1 ≤ x := item_one hF
          have hx2 : x ≤ 4294967295 := item_two hF
          generalize hb : tF_2 T x = tb at HSUM
          have HTB := Lib.hid hb
          clear hb
          rcases bool3 s tb with ⟨rfl, rfl⟩ | ⟨rfl, rfl⟩ | rfl
          · go_wp2_with (go_at_call 98; refine (HSUM.out _).mono ?_; rintro e w' ⟨rfl, rfl⟩)
            generalize hw5 : (wz.setCell ⟨g, 1, none⟩ (.int .i64 (tS T x))).setCell ⟨g, 3, none⟩ (.bool false) = w5
            have HG3 : Hid (w.heap.size + 3 ≤ g) := Lib.hid (by have := HW3.out; have := HU.out.1.2.2; omega)
            have HU5 : Hid (UI w3.heap.size L g S (tS T x) (.slice a4 L.length cap4) false w5 ∧ Mem3 w S T (.slice a L.length cap) false k x w5) := Lib.hid (by
              rw [← hw5]
              exact ⟨HU.out.1.setTS _ _, HU.out.2.keep (bsetB (bsetB (Below.refl _ _) _ _ _ HG3.out) _ _ _ HG3.out)⟩)
            clear hw5 q0 q1 q2 q3 r0 r1 r2 r3 p0 p1 p2 p3 i0 i1 o0 o1 o2 o3 g0 g1 g2 g3
            refine (rfind_any L k a4 L.length cap4 w5 HU5.out.1.2.1.rd (by omega)).mono ?_
            rintro e w' ⟨rfl, rfl⟩
            obtain ⟨⟨p0, p1, p2, p3⟩, ⟨i0, i1⟩, -, -⟩ := HU5.out.2.cells
            obtain ⟨⟨q0, q1, q2, q3⟩, r0, r1, r2, r3⟩ := HU5.out.1.1.cells
            have n1 : ¬ g = w.heap.size := by have := HG3.out; omega
            have n2 : ¬ w.heap.size = g := by omega
            have n3 : ¬ g = w.heap.size + 1 := by have := HG3.out; omega
            have n4 : ¬ w.heap.size + 1 = g := by omega
            have n5 : ¬ g = w.heap.size + 1 + 1 := by have := HG3.out; omega
            have n6 : ¬ w.heap.size + 1 + 1 = g := by omega
            cases hH : hasK L k with
            | true =>
              obtain ⟨j, hj, hfj⟩ : ∃ j : Nat, j < L.length ∧ findI L k = (j : Int) := by
                rcases findI_cases L k with ⟨_, j, h1, h2, _⟩ | ⟨h, _⟩
                · exact ⟨j, h1, h2⟩
                · rw [hH] at h; cases h
              rw [hfj]
              have HEA : Hid (insA S L k x = L.set j ⟨(L.getD j Ent.z).k, tS (L.getD j Ent.z).c x, (L.getD j Ent.z).e⟩) := Lib.hid (by unfold insA; rw [if_pos hH, hfj, Int.toNat_natCast])
              have HEF : Hid (insF S L k x = tF_2 (L.getD j Ent.z).c x) := Lib.hid (by unfold insF; rw [if_pos hH, hfj, Int.toNat_natCast])
              clear hfj hH
              obtain ⟨ge, rfl, hge, hgl, -, -, -⟩ := HU5.out.1.2.1.block (by omega)
              have hga : ¬ ge = g := fun e => HU5.out.1.1.apart HU5.out.1.2.1 (by rw [e]; rfl)
              have hga' : ¬ g = ge := fun e => hga e.symm
              obtain ⟨y0, y1, y2⟩ := HU5.out.1.2.1.cellsAt hj
              have hfz := HU5.out.1.2.1.frozen (j * 3 + 1)
              have hY := hy.at_ j
              have hta := tS_bd (L.getD j Ent.z).c x
              have HST := Lib.hid (HU5.out.1.2.1.storedC hj (c := tS (L.getD j Ent.z).c x) ⟨by omega, by omega⟩)
              have HGE : Hid (w.heap.size + 3 ≤ ge) := Lib.hid (by have := HW3.out; omega)
              generalize L.getD j Ent.z = Y at *
              have HS2 := Lib.hid (fun w => rsum_any_2 Y.c x w hY.2.1.1 hY.2.1.2 x0 x1)
              have hj2 : (j : Int) < (L.length : Int) := by omega
              go_wp2
              go_quiet ((go_at_call 98; exact quiet_left (HS2.out _)))
              go_wp2
              go_big_region
              generalize hw7 : ((w5.drewN (nq + 1)).setCell ⟨ge, j * 3 + 1, none⟩ (.int .i64 (tS Y.c x))).setCell ⟨g, 3, none⟩ (.bool (tF_2 Y.c x)) = w7
              have T7 : Hid (TR g S (tS T x) (.slice (some ⟨ge, 0, none⟩) L.length cap4) (tF_2 Y.c x) w7) := Lib.hid (by rw [← hw7]; exact ((HU5.out.1.1.keep (w' := (w5.drewN (nq + 1)).setCell ⟨ge, j * 3 + 1, none⟩ (.int .i64 (tS Y.c x))) (Below.heap_setCell _ ⟨ge, j * 3 + 1, none⟩ _ g hga')).set3 (tF_2 Y.c x)))
              have HOS : Hid (RdE (L.set j ⟨Y.k, tS Y.c x, Y.e⟩) (.slice (some ⟨ge, 0, none⟩) L.length cap4) w7) := Lib.hid (by rw [← hw7]; exact ((HST.out.drewN (nq + 1)).away (fun e => hga (by injection e)) 3 (.bool (tF_2 Y.c x))).rd)
              have M7 : Hid (Mem3 w S T (.slice a L.length cap) false k x w7) := Lib.hid (by rw [← hw7]; exact HU5.out.2.keep (bsetB (bsetB (below_drewN (Below.refl _ _) (nq + 1)) _ _ _ HGE.out) _ _ _ HG3.out))
              have HLS : Hid ((L.set j ⟨Y.k, tS Y.c x, Y.e⟩).length = L.length) := Lib.hid (by rw [List.length_set])
              clear hw7 HST p0 p1 p2 p3 i0 i1 q0 q1 q2 q3 r0 r1 r2 r3 y0 y1 y2 hfz
              obtain ⟨⟨q0, q1, q2, q3⟩, r0, r1, r2, r3⟩ := T7.out.cells
              go_wp2_with (go_at_call 47; refine (rsort_any (L.set j ⟨Y.k, tS Y.c x, Y.e⟩) _ _ HOS.out (by rw [HLS.out]; omega)).mono ?_; rintro e w8 ⟨v8, rfl, ho8, hb8⟩; obtain ⟨a8, cap8, rfl⟩ := ho8.rd.shape; have HO8 := Lib.hid ho8; have M8 := Lib.hid (M7.out.go hb8); have T8 := Lib.hid (T7.out.keep (hb8.block _ T7.out.lt)); obtain ⟨⟨q0, q1, q2, q3⟩, r0, r1, r2, r3⟩ := T8.out.cells; obtain ⟨-, -, ⟨o0, o1, o2, o3⟩, g0, g1, g2, g3⟩ := M8.out.cells; clear ho8 hb8)
              refine bodyPost_ret (v := .tuple #[.agg #[.int .i64 S, .int .i64 (tS T x), .slice a8 (sortE (L.set j ⟨Y.k, tS Y.c x, Y.e⟩)).length cap8, .bool ((tF_2 Y.c x))], .int .i64 0]) (by simp [results, Tryz.results59, go_sem, *]) rfl ⟨_, rfl, ⟨a8, (sortE (L.set j ⟨Y.k, tS Y.c x, Y.e⟩)).length, cap8, by simp [HEF.out, HTB.out], ?_⟩, ?_⟩
              · rw [HEA.out]
                refine OwnE.mono (B := w7.heap.size) ?_ (by have := M7.out.lt; omega)
                have l3 : w.heap.size + 1 + 1 < w7.heap.size := by have := M7.out.lt; omega
                have l4 : g < w7.heap.size := T7.out.lt
                exact ((((HO8.out.keep l4 _ _).keep l3 _ _).keep l3 _ _).keep l3 _ _).keep l3 _ _
              · have l3 : w.heap.size ≤ w.heap.size + 1 + 1 := by omega
                have l4 : w.heap.size ≤ g := by have := HG3.out; omega
                exact bsetB (bsetB (bsetB (bsetB (bsetB M8.out.2.2.2 _ _ _ l4) _ _ _ l3) _ _ _ l3) _ _ _ l3) _ _ _ l3
            | false =>
              have hfi : findI L k = -1 := by
                rcases findI_cases L k with ⟨h, _⟩ | ⟨_, h⟩
                · rw [hH] at h; cases h
                · exact h
              rw [hfi]
              by_cases hroom : (L.length : Int) < S
              · obtain ⟨hxa, hxb⟩ := insA_room hH hroom hx1 hx2
                have HEA := Lib.hid hxa
                have HEF := Lib.hid hxb
                have HS9 := Lib.hid (OwnE.one (x := ⟨k, x, 0⟩) ⟨HK.out, ⟨x0, x1⟩, by dsimp only; omega, by dsimp only; omega⟩ w5).rd.src
                have HO9 := Lib.hid (HU5.out.1.2.1.alloc (.cells #[.string k, .int .i64 x, .int .i64 0] 64))
                have hB9 : Hid (w3.heap.size ≤ (w5.alloc (.cells #[.string k, .int .i64 x, .int .i64 0] 64)).heap.size) := Lib.hid (by have := HU5.out.1.1.lt; have := HU5.out.1.2.2; simp; omega)
                clear hxa hxb hH hfi
                go_wp2_with (at_builtin; refine wp_appG rfl _ _ _ rfl w3.heap.size L [(⟨k, x, 0⟩ : Ent)] _ _ rfl rfl HO9.out HS9.out ?s1 ?s2 ?_)
                case s1 => exact hB9.out
                case s2 => simp; omega
                intro v9 w9 ho9 hb9 hk9
                obtain ⟨a9, cap9, rfl⟩ := ho9.rd.shape
                have hg5 := HU5.out.1.1.lt
                have T9 := Lib.hid ((HU5.out.1.1.keep ((b1 (.cells #[.string k, .int .i64 x, .int .i64 0] 64)).block _ hg5)).keep (hk9 g (Nat.lt_succ_of_lt hg5) (HU5.out.1.1.apart HU5.out.1.2.1)))
                have M9 := Lib.hid ((HU5.out.2.go (b1 (.cells #[.string k, .int .i64 x, .int .i64 0] 64))).keep (hb9.mono HW3.out))
                have HO10 := Lib.hid ho9
                have HLS : Hid ((L ++ [(⟨k, x, 0⟩ : Ent)]).length = L.length + 1) := Lib.hid (by simp)
                rw [HLS.out]
                rw [HLS.out] at HO10
                clear p0 p1 p2 p3 i0 i1 q0 q1 q2 q3 r0 r1 r2 r3 hk9 hb9 ho9 HS9 HO9 hB9
                obtain ⟨⟨q0, q1, q2, q3⟩, r0, r1, r2, r3⟩ := T9.out.cells
                have HOS : Hid (RdE (L ++ [(⟨k, x, 0⟩ : Ent)]) (.slice a9 (L.length + 1) cap9) (w9.setCell ⟨g, 2, none⟩ (.slice a9 (L.length + 1) cap9))) := Lib.hid ((HO10.out.away (T9.out.apart HO10.out) 2 _).rd)
                have M7 := Lib.hid (M9.out.keep (bsetB (Below.refl _ _) g 2 (.slice a9 (L.length + 1) cap9) HG3.out))
                have T7 := Lib.hid (T9.out.set2 (.slice a9 (L.length + 1) cap9))
                go_wp2_with (go_at_call 47; refine (rsort_any (L ++ [(⟨k, x, 0⟩ : Ent)]) _ _ HOS.out (by rw [HLS.out]; omega)).mono ?_; rintro e w8 ⟨v8, rfl, ho8, hb8⟩; obtain ⟨a8, cap8, rfl⟩ := ho8.rd.shape; have HO8 := Lib.hid ho8; have M8 := Lib.hid (M7.out.go hb8); have T8 := Lib.hid (T7.out.keep (hb8.block _ T7.out.lt)); obtain ⟨⟨q0, q1, q2, q3⟩, r0, r1, r2, r3⟩ := T8.out.cells; obtain ⟨-, -, ⟨o0, o1, o2, o3⟩, g0, g1, g2, g3⟩ := M8.out.cells; clear ho8 hb8)
                refine bodyPost_ret (v := .tuple #[.agg #[.int .i64 S, .int .i64 (tS T x), .slice a8 (sortE (L ++ [(⟨k, x, 0⟩ : Ent)])).length cap8, .bool (false)], .int .i64 0]) (by simp [results, Tryz.results59, go_sem, *]) rfl ⟨_, rfl, ⟨a8, (sortE (L ++ [(⟨k, x, 0⟩ : Ent)])).length, cap8, by simp [HEF.out, HTB.out], ?_⟩, ?_⟩
                · rw [HEA.out]
                  refine OwnE.mono (B := (w9.setCell ⟨g, 2, none⟩ (.slice a9 (L.length + 1) cap9)).heap.size) ?_ (by have := M7.out.lt; omega)
                  have l3 : w.heap.size + 1 + 1 < (w9.setCell ⟨g, 2, none⟩ (.slice a9 (L.length + 1) cap9)).heap.size := by have := M7.out.lt; omega
                  have l4 : g < (w9.setCell ⟨g, 2, none⟩ (.slice a9 (L.length + 1) cap9)).heap.size := T7.out.lt
                  exact ((((HO8.out.keep l4 _ _).keep l3 _ _).keep l3 _ _).keep l3 _ _).keep l3 _ _
                · have l3 : w.heap.size ≤ w.heap.size + 1 + 1 := by omega
                  have l4 : w.heap.size ≤ g := by have := HG3.out; omega
                  exact bsetB (bsetB (bsetB (bsetB (bsetB M8.out.2.2.2 _ _ _ l4) _ _ _ l3) _ _ _ l3) _ _ _ l3) _ _ _ l3
              · have hS : (L.length : Int) = S := by have := hval.len; omega
                obtain ⟨m, hm⟩ : ∃ m, L.length = m + 1 := ⟨L.length - 1, by have := hval.s0; omega⟩
                have HEA := Lib.hid (insA_full (x := x) hH hm hS)
                have HEF := Lib.hid (insF_full (S := S) (x := x) hH)
                have HLE := Lib.hid (fun (w' : World) (hb : Below w.heap.size w w') => rleast_any S T L false a L.length cap w' (HR.out.below hb) (by omega))
                have hlb : -9223372036854775808 ≤ leastI S L ∧ leastI S L ≤ 9223372036854775807 := by
                  unfold leastI
                  split
                  · omega
                  · exact (hy.at_ _).2.1
                generalize leastI S L = l at *
                have hta := tS_bd l x
                have hE0 : (entOf k (tS l x) l).ok := entOf_ok HK.out (by omega) (by omega) hlb.1 hlb.2
                have HS2 := Lib.hid (fun w => rsum_any_2 l x w hlb.1 hlb.2 x0 x1)
                obtain ⟨ge, rfl, hge, hgl, -, -, -⟩ := HU5.out.1.2.1.block (by omega)
                have hga : ¬ ge = g := fun e => HU5.out.1.1.apart HU5.out.1.2.1 (by rw [e]; rfl)
                have hga' : ¬ g = ge := fun e => hga e.symm
                have HGE : Hid (w.heap.size + 3 ≤ ge) := Lib.hid (by have := HW3.out; omega)
                have HEO := Lib.hid hE0
                clear hH hfi hE0
                have e1 : wrap64 ((L.length : Int) - 1) = (m : Int) := by unfold wrap64; omega
                have e2 : IntKind.i64.wrap ((L.length : Int) - 1) = (m : Int) := by rw [IntKind.wrap_i64]; omega
                have e3 : (m : Int) < (L.length : Int) := by omega
                have e4 : wrap64 (tS l x - 1) = tS l x - 1 := by unfold wrap64; omega
                have e5 : IntKind.i64.wrap (tS l x - 1) = tS l x - 1 := by rw [IntKind.wrap_i64]; omega
                have e6 : (L.length : Int) = S := hS
                have e7 : ¬ (L.length : Int) < S := hroom
                have hml : m < L.length := by omega
                clear hm hS hroom e6
                go_wp2_with (first
                  | (go_at_call 84; refine (HLE.out _ HU5.out.2.2.2.2).mono ?_; rintro e w6 ⟨rfl, hb6⟩; have U6 := Lib.hid (HU5.out.1.go hb6); have M6 := Lib.hid (HU5.out.2.go hb6); clear p0 p1 p2 p3 i0 i1 q0 q1 q2 q3 r0 r1 r2 r3; obtain ⟨⟨p0, p1, p2, p3⟩, ⟨i0, i1⟩, -, -⟩ := M6.out.cells; obtain ⟨⟨q0, q1, q2, q3⟩, r0, r1, r2, r3⟩ := U6.out.1.cells; have f0 := U6.out.2.1.frozen (m * 3); have f1 := U6.out.2.1.frozen (m * 3 + 1); have f2 := U6.out.2.1.frozen (m * 3 + 2); obtain ⟨y0, y1, y2⟩ := U6.out.2.1.cellsAt hml; clear hb6)
                  | (go_at_call 98; refine (HS2.out _).mono ?_; rintro e w' ⟨rfl, rfl⟩)
                  | (go_at_call 47; fail))
                generalize hw7 : (((w6.setCell ⟨ge, m * 3, none⟩ (.string k)).setCell ⟨ge, m * 3 + 1, none⟩ (.int .i64 (tS l x))).setCell ⟨ge, m * 3 + 2, none⟩ (.int .i64 (min l (tS l x - 1)))).setCell ⟨g, 3, none⟩ (.bool (tF_2 l x)) = w7
                have T7 : Hid (TR g S (tS T x) (.slice (some ⟨ge, 0, none⟩) L.length cap4) (tF_2 l x) w7) := Lib.hid (by
                  rw [← hw7]
                  refine TR.set3 (s := false) (U6.out.1.keep ?_) (tF_2 l x)
                  rw [Below.heap_setCell _ ⟨ge, m * 3 + 2, none⟩ _ g hga', Below.heap_setCell _ ⟨ge, m * 3 + 1, none⟩ _ g hga', Below.heap_setCell _ ⟨ge, m * 3, none⟩ _ g hga'])
                have HOS : Hid (RdE (L.set m (entOf k (tS l x) l)) (.slice (some ⟨ge, 0, none⟩) L.length cap4) w7) := Lib.hid (by rw [← hw7]; exact ((U6.out.2.1.stored m HEO.out).away (fun e => hga (by injection e)) 3 (.bool (tF_2 l x))).rd)
                have M7 : Hid (Mem3 w S T (.slice a L.length cap) false k x w7) := Lib.hid (by rw [← hw7]; exact M6.out.keep (bsetB (bsetB (bsetB (bsetB (Below.refl _ _) _ _ _ HGE.out) _ _ _ HGE.out) _ _ _ HGE.out) _ _ _ HG3.out))
                have HLS : Hid ((L.set m (entOf k (tS l x) l)).length = L.length) := Lib.hid (by rw [List.length_set])
                clear hw7 p0 p1 p2 p3 i0 i1 q0 q1 q2 q3 r0 r1 r2 r3 y0 y1 y2 f0 f1 f2
                refine (rsort_any (L.set m (entOf k (tS l x) l)) _ _ HOS.out (by rw [HLS.out]; omega)).mono ?_
                rintro e w8 ⟨v8, rfl, ho8, hb8⟩
                obtain ⟨a8, cap8, rfl⟩ := ho8.rd.shape
                have HO8 := Lib.hid ho8
                have M8 := Lib.hid (M7.out.go hb8)
                have T8 := Lib.hid (T7.out.keep (hb8.block _ T7.out.lt))
                obtain ⟨⟨q0, q1, q2, q3⟩, r0, r1, r2, r3⟩ := T8.out.cells
                obtain ⟨-, -, ⟨o0, o1, o2, o3⟩, g0, g1, g2, g3⟩ := M8.out.cells
                clear ho8 hb8
                go_wp2
                refine bodyPost_ret (v := .tuple #[.agg #[.int .i64 S, .int .i64 (tS T x), .slice a8 (sortE (L.set m (entOf k (tS l x) l))).length cap8, .bool ((tF_2 l x))], .int .i64 0]) (by simp [results, Tryz.results59, go_sem, *]) rfl ⟨_, rfl, ⟨a8, (sortE (L.set m (entOf k (tS l x) l))).length, cap8, by simp [HEF.out, HTB.out], ?_⟩, ?_⟩
                · rw [HEA.out]
                  refine OwnE.mono (B := w7.heap.size) ?_ (by have := M7.out.lt; omega)
                  have l3 : w.heap.size + 1 + 1 < w7.heap.size := by have := M7.out.lt; omega
                  have l4 : g < w7.heap.size := T7.out.lt
                  exact ((((HO8.out.keep l4 _ _).keep l3 _ _).keep l3 _ _).keep l3 _ _).keep l3 _ _
                · have l3 : w.heap.size ≤ w.heap.size + 1 + 1 := by omega
                  have l4 : w.heap.size ≤ g := by have := HG3.out; omega
                  exact bsetB (bsetB (bsetB (bsetB (bsetB M8.out.2.2.2 _ _ _ l4) _ _ _ l3) _ _ _ l3) _ _ _ l3) _ _ _ l3
          · go_wp2_with (go_at_call 98; refine (HSUM.out _).mono ?_; rintro e w' ⟨rfl, rfl⟩)
            generalize hw5 : (wz.setCell ⟨g, 1, none⟩ (.int .i64 (tS T x))).setCell ⟨g, 3, none⟩ (.bool true) = w5
            have HG3 : Hid (w.heap.size + 3 ≤ g) := Lib.hid (by have := HW3.out; have := HU.out.1.2.2; omega)
            have HU5 : Hid (UI w3.heap.size L g S (tS T x) (.slice a4 L.length cap4) true w5 ∧ Mem3 w S T (.slice a L.length cap) false k x w5) := Lib.hid (by
              rw [← hw5]
              exact ⟨HU.out.1.setTS _ _, HU.out.2.keep (bsetB (bsetB (Below.refl _ _) _ _ _ HG3.out) _ _ _ HG3.out)⟩)
            clear hw5 q0 q1 q2 q3 r0 r1 r2 r3 p0 p1 p2 p3 i0 i1 o0 o1 o2 o3 g0 g1 g2 g3
            refine (rfind_any L k a4 L.length cap4 w5 HU5.out.1.2.1.rd (by omega)).mono ?_
            rintro e w' ⟨rfl, rfl⟩
            obtain ⟨⟨p0, p1, p2, p3⟩, ⟨i0, i1⟩, -, -⟩ := HU5.out.2.cells
            obtain ⟨⟨q0, q1, q2, q3⟩, r0, r1, r2, r3⟩ := HU5.out.1.1.cells
            have n1 : ¬ g = w.heap.size := by have := HG3.out; omega
            have n2 : ¬ w.heap.size = g := by omega
            have n3 : ¬ g = w.heap.size + 1 := by have := HG3.out; omega
            have n4 : ¬ w.heap.size + 1 = g := by omega
            have n5 : ¬ g = w.heap.size + 1 + 1 := by have := HG3.out; omega
            have n6 : ¬ w.heap.size + 1 + 1 = g := by omega
            cases hH : hasK L k with
            | true =>
              obtain ⟨j, hj, hfj⟩ : ∃ j : Nat, j < L.length ∧ findI L k = (j : Int) := by
                rcases findI_cases L k with ⟨_, j, h1, h2, _⟩ | ⟨h, _⟩
                · exact ⟨j, h1, h2⟩
                · rw [hH] at h; cases h
              rw [hfj]
              have HEA : Hid (insA S L k x = L.set j ⟨(L.getD j Ent.z).k, tS (L.getD j Ent.z).c x, (L.getD j Ent.z).e⟩) := Lib.hid (by unfold insA; rw [if_pos hH, hfj, Int.toNat_natCast])
              have HEF : Hid (insF S L k x = tF_2 (L.getD j Ent.z).c x) := Lib.hid (by unfold insF; rw [if_pos hH, hfj, Int.toNat_natCast])
              clear hfj hH
              obtain ⟨ge, rfl, hge, hgl, -, -, -⟩ := HU5.out.1.2.1.block (by omega)
              have hga : ¬ ge = g := fun e => HU5.out.1.1.apart HU5.out.1.2.1 (by rw [e]; rfl)
              have hga' : ¬ g = ge := fun e => hga e.symm
              obtain ⟨y0, y1, y2⟩ := HU5.out.1.2.1.cellsAt hj
              have hfz := HU5.out.1.2.1.frozen (j * 3 + 1)
              have hY := hy.at_ j
              have hta := tS_bd (L.getD j Ent.z).c x
              have HST := Lib.hid (HU5.out.1.2.1.storedC hj (c := tS (L.getD j Ent.z).c x) ⟨by omega, by omega⟩)
              have HGE : Hid (w.heap.size + 3 ≤ ge) := Lib.hid (by have := HW3.out; omega)
              generalize L.getD j Ent.z = Y at *
              have HS2 := Lib.hid (fun w => rsum_any_2 Y.c x w hY.2.1.1 hY.2.1.2 x0 x1)
              have hj2 : (j : Int) < (L.length : Int) := by omega
              go_wp2
              go_quiet ((go_at_call 98; exact quiet_left (HS2.out _)))
              go_wp2
              go_big_region
              generalize hw7 : ((w5.drewN (nq + 1)).setCell ⟨ge, j * 3 + 1, none⟩ (.int .i64 (tS Y.c x))).setCell ⟨g, 3, none⟩ (.bool true) = w7
              have T7 : Hid (TR g S (tS T x) (.slice (some ⟨ge, 0, none⟩) L.length cap4) true w7) := Lib.hid (by rw [← hw7]; exact ((HU5.out.1.1.keep (w' := (w5.drewN (nq + 1)).setCell ⟨ge, j * 3 + 1, none⟩ (.int .i64 (tS Y.c x))) (Below.heap_setCell _ ⟨ge, j * 3 + 1, none⟩ _ g hga')).set3 true))
              have HOS : Hid (RdE (L.set j ⟨Y.k, tS Y.c x, Y.e⟩) (.slice (some ⟨ge, 0, none⟩) L.length cap4) w7) := Lib.hid (by rw [← hw7]; exact ((HST.out.drewN (nq + 1)).away (fun e => hga (by injection e)) 3 (.bool true)).rd)
              have M7 : Hid (Mem3 w S T (.slice a L.length cap) false k x w7) := Lib.hid (by rw [← hw7]; exact HU5.out.2.keep (bsetB (bsetB (below_drewN (Below.refl _ _) (nq + 1)) _ _ _ HGE.out) _ _ _ HG3.out))
              have HLS : Hid ((L.set j ⟨Y.k, tS Y.c x, Y.e⟩).length = L.length) := Lib.hid (by rw [List.length_set])
              clear hw7 HST p0 p1 p2 p3 i0 i1 q0 q1 q2 q3 r0 r1 r2 r3 y0 y1 y2 hfz
              obtain ⟨⟨q0, q1, q2, q3⟩, r0, r1, r2, r3⟩ := T7.out.cells
              go_wp2_with (go_at_call 47; refine (rsort_any (L.set j ⟨Y.k, tS Y.c x, Y.e⟩) _ _ HOS.out (by rw [HLS.out]; omega)).mono ?_; rintro e w8 ⟨v8, rfl, ho8, hb8⟩; obtain ⟨a8, cap8, rfl⟩ := ho8.rd.shape; have HO8 := Lib.hid ho8; have M8 := Lib.hid (M7.out.go hb8); have T8 := Lib.hid (T7.out.keep (hb8.block _ T7.out.lt)); obtain ⟨⟨q0, q1, q2, q3⟩, r0, r1, r2, r3⟩ := T8.out.cells; obtain ⟨-, -, ⟨o0, o1, o2, o3⟩, g0, g1, g2, g3⟩ := M8.out.cells; clear ho8 hb8)
              refine bodyPost_ret (v := .tuple #[.agg #[.int .i64 S, .int .i64 (tS T x), .slice a8 (sortE (L.set j ⟨Y.k, tS Y.c x, Y.e⟩)).length cap8, .bool (true)], .int .i64 0]) (by simp [results, Tryz.results59, go_sem, *]) rfl ⟨_, rfl, ⟨a8, (sortE (L.set j ⟨Y.k, tS Y.c x, Y.e⟩)).length, cap8, by simp [HEF.out, HTB.out], ?_⟩, ?_⟩
              · rw [HEA.out]
                refine OwnE.mono (B := w7.heap.size) ?_ (by have := M7.out.lt; omega)
                have l3 : w.heap.size + 1 + 1 < w7.heap.size := by have := M7.out.lt; omega
                have l4 : g < w7.heap.size := T7.out.lt
                exact ((((HO8.out.keep l4 _ _).keep l3 _ _).keep l3 _ _).keep l3 _ _).keep l3 _ _
              · have l3 : w.heap.size ≤ w.heap.size + 1 + 1 := by omega
                have l4 : w.heap.size ≤ g := by have := HG3.out; omega
                exact bsetB (bsetB (bsetB (bsetB (bsetB M8.out.2.2.2 _ _ _ l4) _ _ _ l3) _ _ _ l3) _ _ _ l3) _ _ _ l3
            | false =>
              have hfi : findI L k = -1 := by
                rcases findI_cases L k with ⟨h, _⟩ | ⟨_, h⟩
                · rw [hH] at h; cases h
                · exact h
              rw [hfi]
              by_cases hroom : (L.length : Int) < S
              · obtain ⟨hxa, hxb⟩ := insA_room hH hroom hx1 hx2
                have HEA := Lib.hid hxa
                have HEF := Lib.hid hxb
                have HS9 := Lib.hid (OwnE.one (x := ⟨k, x, 0⟩) ⟨HK.out, ⟨x0, x1⟩, by dsimp only; omega, by dsimp only; omega⟩ w5).rd.src
                have HO9 := Lib.hid (HU5.out.1.2.1.alloc (.cells #[.string k, .int .i64 x, .int .i64 0] 64))
                have hB9 : Hid (w3.heap.size ≤ (w5.alloc (.cells #[.string k, .int .i64 x, .int .i64 0] 64)).heap.size) := Lib.hid (by have := HU5.out.1.1.lt; have := HU5.out.1.2.2; simp; omega)
                clear hxa hxb hH hfi
                go_wp2_with (at_builtin; refine wp_appG rfl _ _ _ rfl w3.heap.size L [(⟨k, x, 0⟩ : Ent)] _ _ rfl rfl HO9.out HS9.out ?s1 ?s2 ?_)
                case s1 => exact hB9.out
                case s2 => simp; omega
                intro v9 w9 ho9 hb9 hk9
                obtain ⟨a9, cap9, rfl⟩ := ho9.rd.shape
                have hg5 := HU5.out.1.1.lt
                have T9 := Lib.hid ((HU5.out.1.1.keep ((b1 (.cells #[.string k, .int .i64 x, .int .i64 0] 64)).block _ hg5)).keep (hk9 g (Nat.lt_succ_of_lt hg5) (HU5.out.1.1.apart HU5.out.1.2.1)))
                have M9 := Lib.hid ((HU5.out.2.go (b1 (.cells #[.string k, .int .i64 x, .int .i64 0] 64))).keep (hb9.mono HW3.out))
                have HO10 := Lib.hid ho9
                have HLS : Hid ((L ++ [(⟨k, x, 0⟩ : Ent)]).length = L.length + 1) := Lib.hid (by simp)
                rw [HLS.out]
                rw [HLS.out] at HO10
                clear p0 p1 p2 p3 i0 i1 q0 q1 q2 q3 r0 r1 r2 r3 hk9 hb9 ho9 HS9 HO9 hB9
                obtain ⟨⟨q0, q1, q2, q3⟩, r0, r1, r2, r3⟩ := T9.out.cells
                have HOS : Hid (RdE (L ++ [(⟨k, x, 0⟩ : Ent)]) (.slice a9 (L.length + 1) cap9) (w9.setCell ⟨g, 2, none⟩ (.slice a9 (L.length + 1) cap9))) := Lib.hid ((HO10.out.away (T9.out.apart HO10.out) 2 _).rd)
                have M7 := Lib.hid (M9.out.keep (bsetB (Below.refl _ _) g 2 (.slice a9 (L.length + 1) cap9) HG3.out))
                have T7 := Lib.hid (T9.out.set2 (.slice a9 (L.length + 1) cap9))
                go_wp2_with (go_at_call 47; refine (rsort_any (L ++ [(⟨k, x, 0⟩ : Ent)]) _ _ HOS.out (by rw [HLS.out]; omega)).mono ?_; rintro e w8 ⟨v8, rfl, ho8, hb8⟩; obtain ⟨a8, cap8, rfl⟩ := ho8.rd.shape; have HO8 := Lib.hid ho8; have M8 := Lib.hid (M7.out.go hb8); have T8 := Lib.hid (T7.out.keep (hb8.block _ T7.out.lt)); obtain ⟨⟨q0, q1, q2, q3⟩, r0, r1, r2, r3⟩ := T8.out.cells; obtain ⟨-, -, ⟨o0, o1, o2, o3⟩, g0, g1, g2, g3⟩ := M8.out.cells; clear ho8 hb8)
                refine bodyPost_ret (v := .tuple #[.agg #[.int .i64 S, .int .i64 (tS T x), .slice a8 (sortE (L ++ [(⟨k, x, 0⟩ : Ent)])).length cap8, .bool (true)], .int .i64 0]) (by simp [results, Tryz.results59, go_sem, *]) rfl ⟨_, rfl, ⟨a8, (sortE (L ++ [(⟨k, x, 0⟩ : Ent)])).length, cap8, by simp [HEF.out, HTB.out], ?_⟩, ?_⟩
                · rw [HEA.out]
                  refine OwnE.mono (B := (w9.setCell ⟨g, 2, none⟩ (.slice a9 (L.length + 1) cap9)).heap.size) ?_ (by have := M7.out.lt; omega)
                  have l3 : w.heap.size + 1 + 1 < (w9.setCell ⟨g, 2, none⟩ (.slice a9 (L.length + 1) cap9)).heap.size := by have := M7.out.lt; omega
                  have l4 : g < (w9.setCell ⟨g, 2, none⟩ (.slice a9 (L.length + 1) cap9)).heap.size := T7.out.lt
                  exact ((((HO8.out.keep l4 _ _).keep l3 _ _).keep l3 _ _).keep l3 _ _).keep l3 _ _
                · have l3 : w.heap.size ≤ w.heap.size + 1 + 1 := by omega
                  have l4 : w.heap.size ≤ g := by have := HG3.out; omega
                  exact bsetB (bsetB (bsetB (bsetB (bsetB M8.out.2.2.2 _ _ _ l4) _ _ _ l3) _ _ _ l3) _ _ _ l3) _ _ _ l3
              · have hS : (L.length : Int) = S := by have := hval.len; omega
                obtain ⟨m, hm⟩ : ∃ m, L.length = m + 1 := ⟨L.length - 1, by have := hval.s0; omega⟩
                have HEA := Lib.hid (insA_full (x := x) hH hm hS)
                have HEF := Lib.hid (insF_full (S := S) (x := x) hH)
                have HLE := Lib.hid (fun (w' : World) (hb : Below w.heap.size w w') => rleast_any S T L false a L.length cap w' (HR.out.below hb) (by omega))
                have hlb : -9223372036854775808 ≤ leastI S L ∧ leastI S L ≤ 9223372036854775807 := by
                  unfold leastI
                  split
                  · omega
                  · exact (hy.at_ _).2.1
                generalize leastI S L = l at *
                have hta := tS_bd l x
                have hE0 : (entOf k (tS l x) l).ok := entOf_ok HK.out (by omega) (by omega) hlb.1 hlb.2
                have HS2 := Lib.hid (fun w => rsum_any_2 l x w hlb.1 hlb.2 x0 x1)
                obtain ⟨ge, rfl, hge, hgl, -, -, -⟩ := HU5.out.1.2.1.block (by omega)
                have hga : ¬ ge = g := fun e => HU5.out.1.1.apart HU5.out.1.2.1 (by rw [e]; rfl)
                have hga' : ¬ g = ge := fun e => hga e.symm
                have HGE : Hid (w.heap.size + 3 ≤ ge) := Lib.hid (by have := HW3.out; omega)
                have HEO := Lib.hid hE0
                clear hH hfi hE0
                have e1 : wrap64 ((L.length : Int) - 1) = (m : Int) := by unfold wrap64; omega
                have e2 : IntKind.i64.wrap ((L.length : Int) - 1) = (m : Int) := by rw [IntKind.wrap_i64]; omega
                have e3 : (m : Int) < (L.length : Int) := by omega
                have e4 : wrap64 (tS l x - 1) = tS l x - 1 := by unfold wrap64; omega
                have e5 : IntKind.i64.wrap (tS l x - 1) = tS l x - 1 := by rw [IntKind.wrap_i64]; omega
                have e6 : (L.length : Int) = S := hS
                have e7 : ¬ (L.length : Int) < S := hroom
                have hml : m < L.length := by omega
                clear hm hS hroom e6
                go_wp2_with (first
                  | (go_at_call 84; refine (HLE.out _ HU5.out.2.2.2.2).mono ?_; rintro e w6 ⟨rfl, hb6⟩; have U6 := Lib.hid (HU5.out.1.go hb6); have M6 := Lib.hid (HU5.out.2.go hb6); clear p0 p1 p2 p3 i0 i1 q0 q1 q2 q3 r0 r1 r2 r3; obtain ⟨⟨p0, p1, p2, p3⟩, ⟨i0, i1⟩, -, -⟩ := M6.out.cells; obtain ⟨⟨q0, q1, q2, q3⟩, r0, r1, r2, r3⟩ := U6.out.1.cells; have f0 := U6.out.2.1.frozen (m * 3); have f1 := U6.out.2.1.frozen (m * 3 + 1); have f2 := U6.out.2.1.frozen (m * 3 + 2); obtain ⟨y0, y1, y2⟩ := U6.out.2.1.cellsAt hml; clear hb6)
                  | (go_at_call 98; refine (HS2.out _).mono ?_; rintro e w' ⟨rfl, rfl⟩)
                  | (go_at_call 47; fail))
                generalize hw7 : (((w6.setCell ⟨ge, m * 3, none⟩ (.string k)).setCell ⟨ge, m * 3 + 1, none⟩ (.int .i64 (tS l x))).setCell ⟨ge, m * 3 + 2, none⟩ (.int .i64 (min l (tS l x - 1)))).setCell ⟨g, 3, none⟩ (.bool true) = w7
                have T7 : Hid (TR g S (tS T x) (.slice (some ⟨ge, 0, none⟩) L.length cap4) true w7) := Lib.hid (by
                  rw [← hw7]
                  refine TR.set3 (s := true) (U6.out.1.keep ?_) true
                  rw [Below.heap_setCell _ ⟨ge, m * 3 + 2, none⟩ _ g hga', Below.heap_setCell _ ⟨ge, m * 3 + 1, none⟩ _ g hga', Below.heap_setCell _ ⟨ge, m * 3, none⟩ _ g hga'])
                have HOS : Hid (RdE (L.set m (entOf k (tS l x) l)) (.slice (some ⟨ge, 0, none⟩) L.length cap4) w7) := Lib.hid (by rw [← hw7]; exact ((U6.out.2.1.stored m HEO.out).away (fun e => hga (by injection e)) 3 (.bool true)).rd)
                have M7 : Hid (Mem3 w S T (.slice a L.length cap) false k x w7) := Lib.hid (by rw [← hw7]; exact M6.out.keep (bsetB (bsetB (bsetB (bsetB (Below.refl _ _) _ _ _ HGE.out) _ _ _ HGE.out) _ _ _ HGE.out) _ _ _ HG3.out))
                have HLS : Hid ((L.set m (entOf k (tS l x) l)).length = L.length) := Lib.hid (by rw [List.length_set])
                clear hw7 p0 p1 p2 p3 i0 i1 q0 q1 q2 q3 r0 r1 r2 r3 y0 y1 y2 f0 f1 f2
                refine (rsort_any (L.set m (entOf k (tS l x) l)) _ _ HOS.out (by rw [HLS.out]; omega)).mono ?_
                rintro e w8 ⟨v8, rfl, ho8, hb8⟩
                obtain ⟨a8, cap8, rfl⟩ := ho8.rd.shape
                have HO8 := Lib.hid ho8
                have M8 := Lib.hid (M7.out.go hb8)
                have T8 := Lib.hid (T7.out.keep (hb8.block _ T7.out.lt))
                obtain ⟨⟨q0, q1, q2, q3⟩, r0, r1, r2, r3⟩ := T8.out.cells
                obtain ⟨-, -, ⟨o0, o1, o2, o3⟩, g0, g1, g2, g3⟩ := M8.out.cells
                clear ho8 hb8
                go_wp2
                refine bodyPost_ret (v := .tuple #[.agg #[.int .i64 S, .int .i64 (tS T x), .slice a8 (sortE (L.set m (entOf k (tS l x) l))).length cap8, .bool (true)], .int .i64 0]) (by simp [results, Tryz.results59, go_sem, *]) rfl ⟨_, rfl, ⟨a8, (sortE (L.set m (entOf k (tS l x) l))).length, cap8, by simp [HEF.out, HTB.out], ?_⟩, ?_⟩
                · rw [HEA.out]
                  refine OwnE.mono (B := w7.heap.size) ?_ (by have := M7.out.lt; omega)
                  have l3 : w.heap.size + 1 + 1 < w7.heap.size := by have := M7.out.lt; omega
                  have l4 : g < w7.heap.size := T7.out.lt
                  exact ((((HO8.out.keep l4 _ _).keep l3 _ _).keep l3 _ _).keep l3 _ _).keep l3 _ _
                · have l3 : w.heap.size ≤ w.heap.size + 1 + 1 := by omega
                  have l4 : w.heap.size ≤ g := by have := HG3.out; omega
                  exact bsetB (bsetB (bsetB (bsetB (bsetB M8.out.2.2.2 _ _ _ l4) _ _ _ l3) _ _ _ l3) _ _ _ l3) _ _ _ l3
          · go_wp2_with (go_at_call 98; refine (HSUM.out _).mono ?_; rintro e w' ⟨rfl, rfl⟩)
            generalize hw5 : (wz.setCell ⟨g, 1, none⟩ (.int .i64 (tS T x))).setCell ⟨g, 3, none⟩ (.bool true) = w5
            have HG3 : Hid (w.heap.size + 3 ≤ g) := Lib.hid (by have := HW3.out; have := HU.out.1.2.2; omega)
            have HU5 : Hid (UI w3.heap.size L g S (tS T x) (.slice a4 L.length cap4) true w5 ∧ Mem3 w S T (.slice a L.length cap) true k x w5) := Lib.hid (by
              rw [← hw5]
              exact ⟨HU.out.1.setTS _ _, HU.out.2.keep (bsetB (bsetB (Below.refl _ _) _ _ _ HG3.out) _ _ _ HG3.out)⟩)
            clear hw5 q0 q1 q2 q3 r0 r1 r2 r3 p0 p1 p2 p3 i0 i1 o0 o1 o2 o3 g0 g1 g2 g3
            refine (rfind_any L k a4 L.length cap4 w5 HU5.out.1.2.1.rd (by omega)).mono ?_
            rintro e w' ⟨rfl, rfl⟩
            obtain ⟨⟨p0, p1, p2, p3⟩, ⟨i0, i1⟩, -, -⟩ := HU5.out.2.cells
            obtain ⟨⟨q0, q1, q2, q3⟩, r0, r1, r2, r3⟩ := HU5.out.1.1.cells
            have n1 : ¬ g = w.heap.size := by have := HG3.out; omega
            have n2 : ¬ w.heap.size = g := by omega
            have n3 : ¬ g = w.heap.size + 1 := by have := HG3.out; omega
            have n4 : ¬ w.heap.size + 1 = g := by omega
            have n5 : ¬ g = w.heap.size + 1 + 1 := by have := HG3.out; omega
            have n6 : ¬ w.heap.size + 1 + 1 = g := by omega
            cases hH : hasK L k with
            | true =>
              obtain ⟨j, hj, hfj⟩ : ∃ j : Nat, j < L.length ∧ findI L k = (j : Int) := by
                rcases findI_cases L k with ⟨_, j, h1, h2, _⟩ | ⟨h, _⟩
                · exact ⟨j, h1, h2⟩
                · rw [hH] at h; cases h
              rw [hfj]
              have HEA : Hid (insA S L k x = L.set j ⟨(L.getD j Ent.z).k, tS (L.getD j Ent.z).c x, (L.getD j Ent.z).e⟩) := Lib.hid (by unfold insA; rw [if_pos hH, hfj, Int.toNat_natCast])
              have HEF : Hid (insF S L k x = tF_2 (L.getD j Ent.z).c x) := Lib.hid (by unfold insF; rw [if_pos hH, hfj, Int.toNat_natCast])
              clear hfj hH
              obtain ⟨ge, rfl, hge, hgl, -, -, -⟩ := HU5.out.1.2.1.block (by omega)
              have hga : ¬ ge = g := fun e => HU5.out.1.1.apart HU5.out.1.2.1 (by rw [e]; rfl)
              have hga' : ¬ g = ge := fun e => hga e.symm
              obtain ⟨y0, y1, y2⟩ := HU5.out.1.2.1.cellsAt hj
              have hfz := HU5.out.1.2.1.frozen (j * 3 + 1)
              have hY := hy.at_ j
              have hta := tS_bd (L.getD j Ent.z).c x
              have HST := Lib.hid (HU5.out.1.2.1.storedC hj (c := tS (L.getD j Ent.z).c x) ⟨by omega, by omega⟩)
              have HGE : Hid (w.heap.size + 3 ≤ ge) := Lib.hid (by have := HW3.out; omega)
              generalize L.getD j Ent.z = Y at *
              have HS2 := Lib.hid (fun w => rsum_any_2 Y.c x w hY.2.1.1 hY.2.1.2 x0 x1)
              have hj2 : (j : Int) < (L.length : Int) := by omega
              go_wp2
              go_quiet ((go_at_call 98; exact quiet_left (HS2.out _)))
              go_wp2
              go_big_region
              generalize hw7 : ((w5.drewN (nq + 1)).setCell ⟨ge, j * 3 + 1, none⟩ (.int .i64 (tS Y.c x))).setCell ⟨g, 3, none⟩ (.bool true) = w7
              have T7 : Hid (TR g S (tS T x) (.slice (some ⟨ge, 0, none⟩) L.length cap4) true w7) := Lib.hid (by rw [← hw7]; exact ((HU5.out.1.1.keep (w' := (w5.drewN (nq + 1)).setCell ⟨ge, j * 3 + 1, none⟩ (.int .i64 (tS Y.c x))) (Below.heap_setCell _ ⟨ge, j * 3 + 1, none⟩ _ g hga')).set3 true))
              have HOS : Hid (RdE (L.set j ⟨Y.k, tS Y.c x, Y.e⟩) (.slice (some ⟨ge, 0, none⟩) L.length cap4) w7) := Lib.hid (by rw [← hw7]; exact ((HST.out.drewN (nq + 1)).away (fun e => hga (by injection e)) 3 (.bool true)).rd)
              have M7 : Hid (Mem3 w S T (.slice a L.length cap) true k x w7) := Lib.hid (by rw [← hw7]; exact HU5.out.2.keep (bsetB (bsetB (below_drewN (Below.refl _ _) (nq + 1)) _ _ _ HGE.out) _ _ _ HG3.out))
              have HLS : Hid ((L.set j ⟨Y.k, tS Y.c x, Y.e⟩).length = L.length) := Lib.hid (by rw [List.length_set])
              clear hw7 HST p0 p1 p2 p3 i0 i1 q0 q1 q2 q3 r0 r1 r2 r3 y0 y1 y2 hfz
              obtain ⟨⟨q0, q1, q2, q3⟩, r0, r1, r2, r3⟩ := T7.out.cells
              go_wp2_with (go_at_call 47; refine (rsort_any (L.set j ⟨Y.k, tS Y.c x, Y.e⟩) _ _ HOS.out (by rw [HLS.out]; omega)).mono ?_; rintro e w8 ⟨v8, rfl, ho8, hb8⟩; obtain ⟨a8, cap8, rfl⟩ := ho8.rd.shape; have HO8 := Lib.hid ho8; have M8 := Lib.hid (M7.out.go hb8); have T8 := Lib.hid (T7.out.keep (hb8.block _ T7.out.lt)); obtain ⟨⟨q0, q1, q2, q3⟩, r0, r1, r2, r3⟩ := T8.out.cells; obtain ⟨-, -, ⟨o0, o1, o2, o3⟩, g0, g1, g2, g3⟩ := M8.out.cells; clear ho8 hb8)
              refine bodyPost_ret (v := .tuple #[.agg #[.int .i64 S, .int .i64 (tS T x), .slice a8 (sortE (L.set j ⟨Y.k, tS Y.c x, Y.e⟩)).length cap8, .bool (true)], .int .i64 0]) (by simp [results, Tryz.results59, go_sem, *]) rfl ⟨_, rfl, ⟨a8, (sortE (L.set j ⟨Y.k, tS Y.c x, Y.e⟩)).length, cap8, by simp [HEF.out, HTB.out], ?_⟩, ?_⟩
              · rw [HEA.out]
                refine OwnE.mono (B := w7.heap.size) ?_ (by have := M7.out.lt; omega)
                have l3 : w.heap.size + 1 + 1 < w7.heap.size := by have := M7.out.lt; omega
                have l4 : g < w7.heap.size := T7.out.lt
                exact ((((HO8.out.keep l4 _ _).keep l3 _ _).keep l3 _ _).keep l3 _ _).keep l3 _ _
              · have l3 : w.heap.size ≤ w.heap.size + 1 + 1 := by omega
                have l4 : w.heap.size ≤ g := by have := HG3.out; omega
                exact bsetB (bsetB (bsetB (bsetB (bsetB M8.out.2.2.2 _ _ _ l4) _ _ _ l3) _ _ _ l3) _ _ _ l3) _ _ _ l3
            | false =>
              have hfi : findI L k = -1 := by
                rcases findI_cases L k with ⟨h, _⟩ | ⟨_, h⟩
                · rw [hH] at h; cases h
                · exact h
              rw [hfi]
              by_cases hroom : (L.length : Int) < S
              · obtain ⟨hxa, hxb⟩ := insA_room hH hroom hx1 hx2
                have HEA := Lib.hid hxa
                have HEF := Lib.hid hxb
                have HS9 := Lib.hid (OwnE.one (x := ⟨k, x, 0⟩) ⟨HK.out, ⟨x0, x1⟩, by dsimp only; omega, by dsimp only; omega⟩ w5).rd.src
                have HO9 := Lib.hid (HU5.out.1.2.1.alloc (.cells #[.string k, .int .i64 x, .int .i64 0] 64))
                have hB9 : Hid (w3.heap.size ≤ (w5.alloc (.cells #[.string k, .int .i64 x, .int .i64 0] 64)).heap.size) := Lib.hid (by have := HU5.out.1.1.lt; have := HU5.out.1.2.2; simp; omega)
                clear hxa hxb hH hfi
                go_wp2_with (at_builtin; refine wp_appG rfl _ _ _ rfl w3.heap.size L [(⟨k, x, 0⟩ : Ent)] _ _ rfl rfl HO9.out HS9.out ?s1 ?s2 ?_)
                case s1 => exact hB9.out
                case s2 => simp; omega
                intro v9 w9 ho9 hb9 hk9
                obtain ⟨a9, cap9, rfl⟩ := ho9.rd.shape
                have hg5 := HU5.out.1.1.lt
                have T9 := Lib.hid ((HU5.out.1.1.keep ((b1 (.cells #[.string k, .int .i64 x, .int .i64 0] 64)).block _ hg5)).keep (hk9 g (Nat.lt_succ_of_lt hg5) (HU5.out.1.1.apart HU5.out.1.2.1)))
                have M9 := Lib.hid ((HU5.out.2.go (b1 (.cells #[.string k, .int .i64 x, .int .i64 0] 64))).keep (hb9.mono HW3.out))
                have HO10 := Lib.hid ho9
                have HLS : Hid ((L ++ [(⟨k, x, 0⟩ : Ent)]).length = L.length + 1) := Lib.hid (by simp)
                rw [HLS.out]
                rw [HLS.out] at HO10
                clear p0 p1 p2 p3 i0 i1 q0 q1 q2 q3 r0 r1 r2 r3 hk9 hb9 ho9 HS9 HO9 hB9
                obtain ⟨⟨q0, q1, q2, q3⟩, r0, r1, r2, r3⟩ := T9.out.cells
                have HOS : Hid (RdE (L ++ [(⟨k, x, 0⟩ : Ent)]) (.slice a9 (L.length + 1) cap9) (w9.setCell ⟨g, 2, none⟩ (.slice a9 (L.length + 1) cap9))) := Lib.hid ((HO10.out.away (T9.out.apart HO10.out) 2 _).rd)
                have M7 := Lib.hid (M9.out.keep (bsetB (Below.refl _ _) g 2 (.slice a9 (L.length + 1) cap9) HG3.out))
                have T7 := Lib.hid (T9.out.set2 (.slice a9 (L.length + 1) cap9))
                go_wp2_with (go_at_call 47; refine (rsort_any (L ++ [(⟨k, x, 0⟩ : Ent)]) _ _ HOS.out (by rw [HLS.out]; omega)).mono ?_; rintro e w8 ⟨v8, rfl, ho8, hb8⟩; obtain ⟨a8, cap8, rfl⟩ := ho8.rd.shape; have HO8 := Lib.hid ho8; have M8 := Lib.hid (M7.out.go hb8); have T8 := Lib.hid (T7.out.keep (hb8.block _ T7.out.lt)); obtain ⟨⟨q0, q1, q2, q3⟩, r0, r1, r2, r3⟩ := T8.out.cells; obtain ⟨-, -, ⟨o0, o1, o2, o3⟩, g0, g1, g2, g3⟩ := M8.out.cells; clear ho8 hb8)
                refine bodyPost_ret (v := .tuple #[.agg #[.int .i64 S, .int .i64 (tS T x), .slice a8 (sortE (L ++ [(⟨k, x, 0⟩ : Ent)])).length cap8, .bool (true)], .int .i64 0]) (by simp [results, Tryz.results59, go_sem, *]) rfl ⟨_, rfl, ⟨a8, (sortE (L ++ [(⟨k, x, 0⟩ : Ent)])).length, cap8, by simp [HEF.out, HTB.out], ?_⟩, ?_⟩
                · rw [HEA.out]
                  refine OwnE.mono (B := (w9.setCell ⟨g, 2, none⟩ (.slice a9 (L.length + 1) cap9)).heap.size) ?_ (by have := M7.out.lt; omega)
                  have l3 : w.heap.size + 1 + 1 < (w9.setCell ⟨g, 2, none⟩ (.slice a9 (L.length + 1) cap9)).heap.size := by have := M7.out.lt; omega
                  have l4 : g < (w9.setCell ⟨g, 2, none⟩ (.slice a9 (L.length + 1) cap9)).heap.size := T7.out.lt
                  exact ((((HO8.out.keep l4 _ _).keep l3 _ _).keep l3 _ _).keep l3 _ _).keep l3 _ _
                · have l3 : w.heap.size ≤ w.heap.size + 1 + 1 := by omega
                  have l4 : w.heap.size ≤ g := by have := HG3.out; omega
                  exact bsetB (bsetB (bsetB (bsetB (bsetB M8.out.2.2.2 _ _ _ l4) _ _ _ l3) _ _ _ l3) _ _ _ l3) _ _ _ l3
              · have hS : (L.length : Int) = S := by have := hval.len; omega
                obtain ⟨m, hm⟩ : ∃ m, L.length = m + 1 := ⟨L.length - 1, by have := hval.s0; omega⟩
                have HEA := Lib.hid (insA_full (x := x) hH hm hS)
                have HEF := Lib.hid (insF_full (S := S) (x := x) hH)
                have HLE := Lib.hid (fun (w' : World) (hb : Below w.heap.size w w') => rleast_any S T L true a L.length cap w' (HR.out.below hb) (by omega))
                have hlb : -9223372036854775808 ≤ leastI S L ∧ leastI S L ≤ 9223372036854775807 := by
                  unfold leastI
                  split
                  · omega
                  · exact (hy.at_ _).2.1
                generalize leastI S L = l at *
                have hta := tS_bd l x
                have hE0 : (entOf k (tS l x) l).ok := entOf_ok HK.out (by omega) (by omega) hlb.1 hlb.2
                have HS2 := Lib.hid (fun w => rsum_any_2 l x w hlb.1 hlb.2 x0 x1)
                obtain ⟨ge, rfl, hge, hgl, -, -, -⟩ := HU5.out.1.2.1.block (by omega)
                have hga : ¬ ge = g := fun e => HU5.out.1.1.apart HU5.out.1.2.1 (by rw [e]; rfl)
                have hga' : ¬ g = ge := fun e => hga e.symm
                have HGE : Hid (w.heap.size + 3 ≤ ge) := Lib.hid (by have := HW3.out; omega)
                have HEO := Lib.hid hE0
                clear hH hfi hE0
                have e1 : wrap64 ((L.length : Int) - 1) = (m : Int) := by unfold wrap64; omega
                have e2 : IntKind.i64.wrap ((L.length : Int) - 1) = (m : Int) := by rw [IntKind.wrap_i64]; omega
                have e3 : (m : Int) < (L.length : Int) := by omega
                have e4 : wrap64 (tS l x - 1) = tS l x - 1 := by unfold wrap64; omega
                have e5 : IntKind.i64.wrap (tS l x - 1) = tS l x - 1 := by rw [IntKind.wrap_i64]; omega
                have e6 : (L.length : Int) = S := hS
                have e7 : ¬ (L.length : Int) < S := hroom
                have hml : m < L.length := by omega
                clear hm hS hroom e6
                go_wp2_with (first
                  | (go_at_call 84; refine (HLE.out _ HU5.out.2.2.2.2).mono ?_; rintro e w6 ⟨rfl, hb6⟩; have U6 := Lib.hid (HU5.out.1.go hb6); have M6 := Lib.hid (HU5.out.2.go hb6); clear p0 p1 p2 p3 i0 i1 q0 q1 q2 q3 r0 r1 r2 r3; obtain ⟨⟨p0, p1, p2, p3⟩, ⟨i0, i1⟩, -, -⟩ := M6.out.cells; obtain ⟨⟨q0, q1, q2, q3⟩, r0, r1, r2, r3⟩ := U6.out.1.cells; have f0 := U6.out.2.1.frozen (m * 3); have f1 := U6.out.2.1.frozen (m * 3 + 1); have f2 := U6.out.2.1.frozen (m * 3 + 2); obtain ⟨y0, y1, y2⟩ := U6.out.2.1.cellsAt hml; clear hb6)
                  | (go_at_call 98; refine (HS2.out _).mono ?_; rintro e w' ⟨rfl, rfl⟩)
                  | (go_at_call 47; fail))
                generalize hw7 : (((w6.setCell ⟨ge, m * 3, none⟩ (.string k)).setCell ⟨ge, m * 3 + 1, none⟩ (.int .i64 (tS l x))).setCell ⟨ge, m * 3 + 2, none⟩ (.int .i64 (min l (tS l x - 1)))).setCell ⟨g, 3, none⟩ (.bool true) = w7
                have T7 : Hid (TR g S (tS T x) (.slice (some ⟨ge, 0, none⟩) L.length cap4) true w7) := Lib.hid (by
                  rw [← hw7]
                  refine TR.set3 (s := true) (U6.out.1.keep ?_) true
                  rw [Below.heap_setCell _ ⟨ge, m * 3 + 2, none⟩ _ g hga', Below.heap_setCell _ ⟨ge, m * 3 + 1, none⟩ _ g hga', Below.heap_setCell _ ⟨ge, m * 3, none⟩ _ g hga'])
                have HOS : Hid (RdE (L.set m (entOf k (tS l x) l)) (.slice (some ⟨ge, 0, none⟩) L.length cap4) w7) := Lib.hid (by rw [← hw7]; exact ((U6.out.2.1.stored m HEO.out).away (fun e => hga (by injection e)) 3 (.bool true)).rd)
                have M7 : Hid (Mem3 w S T (.slice a L.length cap) true k x w7) := Lib.hid (by rw [← hw7]; exact M6.out.keep (bsetB (bsetB (bsetB (bsetB (Below.refl _ _) _ _ _ HGE.out) _ _ _ HGE.out) _ _ _ HGE.out) _ _ _ HG3.out))
                have HLS : Hid ((L.set m (entOf k (tS l x) l)).length = L.length) := Lib.hid (by rw [List.length_set])
                clear hw7 p0 p1 p2 p3 i0 i1 q0 q1 q2 q3 r0 r1 r2 r3 y0 y1 y2 f0 f1 f2
                refine (rsort_any (L.set m (entOf k (tS l x) l)) _ _ HOS.out (by rw [HLS.out]; omega)).mono ?_
                rintro e w8 ⟨v8, rfl, ho8, hb8⟩
                obtain ⟨a8, cap8, rfl⟩ := ho8.rd.shape
                have HO8 := Lib.hid ho8
                have M8 := Lib.hid (M7.out.go hb8)
                have T8 := Lib.hid (T7.out.keep (hb8.block _ T7.out.lt))
                obtain ⟨⟨q0, q1, q2, q3⟩, r0, r1, r2, r3⟩ := T8.out.cells
                obtain ⟨-, -, ⟨o0, o1, o2, o3⟩, g0, g1, g2, g3⟩ := M8.out.cells
                clear ho8 hb8
                go_wp2
                refine bodyPost_ret (v := .tuple #[.agg #[.int .i64 S, .int .i64 (tS T x), .slice a8 (sortE (L.set m (entOf k (tS l x) l))).length cap8, .bool (true)], .int .i64 0]) (by simp [results, Tryz.results59, go_sem, *]) rfl ⟨_, rfl, ⟨a8, (sortE (L.set m (entOf k (tS l x) l))).length, cap8, by simp [HEF.out, HTB.out], ?_⟩, ?_⟩
                · rw [HEA.out]
                  refine OwnE.mono (B := w7.heap.size) ?_ (by have := M7.out.lt; omega)
                  have l3 : w.heap.size + 1 + 1 < w7.heap.size := by have := M7.out.lt; omega
                  have l4 : g < w7.heap.size := T7.out.lt
                  exact ((((HO8.out.keep l4 _ _).keep l3 _ _).keep l3 _ _).keep l3 _ _).keep l3 _ _
                · have l3 : w.heap.size ≤ w.heap.size + 1 + 1 := by omega
                  have l4 : w.heap.size ≤ g := by have := HG3.out; omega
                  exact bsetB (bsetB (bsetB (bsetB (bsetB M8.out.2.2.2 _ _ _ l4) _ _ _ l3) _ _ _ l3) _ _ _ l3) _ _ _ l3
    · have hF2 : (itemE (byt k) x != 0) = true := by simpa using hF
      rw [if_pos hF]
      clear hF
      go_enter Tryz.func59, Tryz.ntmps59
      go_wp2_with (first
        | (go_at_call 77; refine (HV.out _ M0.out.2.2.2).mono ?_; rintro e w2 ⟨rfl, hb2⟩; have M2 := Lib.hid (M0.out.go hb2); obtain ⟨⟨p0, p1, p2, p3⟩, ⟨i0, i1⟩, ⟨o0, o1, o2, o3⟩, g0, g1, g2, g3⟩ := M2.out.cells; clear hb2)
        | (go_at_call 54; refine (hit _).mono ?_; rintro e w3 ⟨rfl, hb3⟩; have M3 := Lib.hid (M2.out.go hb3); clear p0 p1 p2 p3 i0 i1 o0 o1 o2 o3 g0 g1 g2 g3; obtain ⟨⟨p0, p1, p2, p3⟩, ⟨i0, i1⟩, ⟨o0, o1, o2, o3⟩, g0, g1, g2, g3⟩ := M3.out.cells; clear hb3))
      refine bodyPost_ret (v := .tuple #[.agg #[.int .i64 0, .int .i64 0, .slice none 0 0, .bool false], .int .i64 (itemE (byt k) x)]) (by simp [results, Tryz.results59, go_sem, *]) rfl ⟨_, rfl, ⟨none, 0, 0, rfl, OwnE.empty _ _⟩, ?_⟩
      exact bsetB (bsetB (bsetB (bsetB M3.out.2.2.2 _ _ _ (by omega)) _ _ _ (by omega)) _ _ _ (by omega)) _ _ _ (by omega)
  · have hE2 : (valE S T L != 0) = true := by simpa using hE
    rw [if_pos hE, if_pos hE]
    clear hE
    go_enter Tryz.func59, Tryz.ntmps59
    go_wp2_with (go_at_call 77; refine (HV.out _ M0.out.2.2.2).mono ?_; rintro e w2 ⟨rfl, hb2⟩; have M2 := Lib.hid (M0.out.go hb2); obtain ⟨⟨p0, p1, p2, p3⟩, ⟨i0, i1⟩, ⟨o0, o1, o2, o3⟩, g0, g1, g2, g3⟩ := M2.out.cells; clear hb2)
    refine bodyPost_ret (v := .tuple #[.agg #[.int .i64 0, .int .i64 0, .slice none 0 0, .bool false], .int .i64 (valE S T L)]) (by simp [results, Tryz.results59, go_sem, *]) rfl ⟨_, rfl, ⟨none, 0, 0, rfl, OwnE.empty _ _⟩, ?_⟩
    exact bsetB (bsetB (bsetB (bsetB M2.out.2.2.2 _ _ _ (by omega)) _ _ _ (by omega)) _ _ _ (by omega)) _ _ _ (by omega)
end Go.Proofs.YtjibbnknliamkaaGreatDoor
