/- The contract of frequent's adder.union. -/
import Derived.Test.YtmmdnomfpfcjiaaFqG
import Derived.Test.YtmmdnomfpfcjiaaFqB
import Derived.Test.YtmmdnomfpfcjiaaMeetX
import Derived.Deep.Cut
namespace Go.Proofs.Ytmmdnomfpfcjiaa
open Go.RowKit
set_option linter.unusedVariables false
set_option linter.unusedSimpArgs false
/-- The state of union: what is appended to, the flag; of the old blocks the flag's alone has turned. -/
def UnS (w0 : World) (g : Nat) (O : List Ent) (o : Value) (r : Bool) (w : World) : Prop := OwnE w0.heap.size O o w ∧ Fl g r w ∧ One g w0 w ∧ g < w0.heap.size
theorem UnS.go {w0 : World} {g : Nat} {O : List Ent} {o : Value} {r : Bool} {w w' : World} (h : UnS w0 g O o r w) (hb : Below w.heap.size w w') : UnS w0 g O o r w' :=
  ⟨h.1.below hb, h.2.1.bd hb, h.2.2.1.trans (One.of hb h.2.1.lt), h.2.2.2⟩
theorem UnS.size {w0 : World} {g : Nat} {O : List Ent} {o : Value} {r : Bool} {w : World} (h : UnS w0 g O o r w) : w0.heap.size ≤ w.heap.size := h.2.2.1.2.1
theorem OwnE.firm {B g : Nat} {L : List Ent} {v : Value} {w w' : World} (h : OwnE B L v w) (ho : One g w w') (hg : g < B) : OwnE B L v w' := by
  obtain ⟨hy, h1, h2⟩ := h
  refine ⟨hy, h1, ?_⟩
  rcases h2 with h2 | ⟨b, cap, cur, rfl, hb', hg', r⟩
  · exact .inl h2
  · exact .inr ⟨b, cap, cur, rfl, hb', (ho.2.2 b (Array.getElem?_eq_some_iff.1 hg').1 (by omega)).trans hg', r⟩
theorem UnS.one {w0 : World} {g : Nat} {O : List Ent} {o : Value} {r q : Bool} {w w' : World} (h : UnS w0 g O o r w) (ho : One g w w') (hf : Fl g q w') : UnS w0 g O o q w' :=
  ⟨h.1.firm ho h.2.2.2, hf, h.2.2.1.trans ho, h.2.2.2⟩
theorem UnS.grow {w0 : World} {g : Nat} {O O' : List Ent} {o o' : Value} {r : Bool} {w w' : World} (h : UnS w0 g O o r w) (ho : OwnE w0.heap.size O' o' w') (hb : Below w0.heap.size w w') : UnS w0 g O' o' r w' := by
  have h1 : One g w0 w' := ⟨h.2.2.1.1.trans (hb.mono (Nat.le_of_lt h.2.2.2)), Nat.le_trans h.size hb.size, fun b hl hn => (hb.block b hl).trans (h.2.2.1.2.2 b hl hn)⟩
  exact ⟨ho, h.2.1.keep (hb.block _ h.2.2.2), h1, h.2.2.2⟩
theorem At3.one {x : Ent} {b o g : Nat} {w w' : World} (h : At3 x b o w) (ho : One g w w') (hn : b ≠ g) : At3 x b o w' := h.keep (ho.2.2 b h.lt hn)
theorem cmpK_three (a b : ByteArray) : (cmpK a b < 0 ∧ lessK a b = true) ∨ (¬ cmpK a b < 0 ∧ 0 < cmpK a b ∧ lessK a b = false ∧ lessK b a = true) ∨ (¬ cmpK a b < 0 ∧ ¬ 0 < cmpK a b ∧ lessK a b = false ∧ lessK b a = false) := by
  have h1 := cmpK_lt a b
  have h2 := cmpK_gt a b
  cases h : lessK a b with
  | true => rw [h] at h1; exact .inl ⟨h1.2 rfl, rfl⟩
  | false =>
    rw [h] at h1
    have h3 : ¬ cmpK a b < 0 := fun h => by cases h1.1 h
    cases hb : lessK b a with
    | true => rw [hb] at h2; exact .inr (.inl ⟨h3, h2.2 rfl, rfl, rfl⟩)
    | false => rw [hb] at h2; exact .inr (.inr ⟨h3, fun h => (by cases h2.1 h), rfl, rfl⟩)
/-- The state of union with its two entries. -/
def UnT (w0 : World) (g : Nat) (O : List Ent) (o : Value) (r : Bool) (X Y : Ent) (gx gy : Nat) (w : World) : Prop := At3 X gx 0 w ∧ At3 Y gy 0 w ∧ UnS w0 g O o r w ∧ w0.heap.size ≤ gx ∧ w0.heap.size ≤ gy
theorem UnT.go {w0 : World} {g : Nat} {O : List Ent} {o : Value} {r : Bool} {X Y : Ent} {gx gy : Nat} {w w' : World} (h : UnT w0 g O o r X Y gx gy w) (hb : Below w.heap.size w w') : UnT w0 g O o r X Y gx gy w' := ⟨h.1.go hb, h.2.1.go hb, h.2.2.1.go hb, h.2.2.2⟩
theorem UnT.one {w0 : World} {g : Nat} {O : List Ent} {o : Value} {r q : Bool} {X Y : Ent} {gx gy : Nat} {w w' : World} (h : UnT w0 g O o r X Y gx gy w) (ho : One g w w') (hf : Fl g q w') : UnT w0 g O o q X Y gx gy w' :=
  ⟨h.1.one ho (by have := h.2.2.1.2.2.2; have := h.2.2.2.1; omega), h.2.1.one ho (by have := h.2.2.1.2.2.2; have := h.2.2.2.2; omega), h.2.2.1.one ho hf, h.2.2.2⟩
theorem UnT.newA {w0 : World} {g : Nat} {O : List Ent} {o : Value} {r : Bool} {w : World} (h : UnS w0 g O o r w) (X Y : Ent) :
    UnT w0 g O o r X Y w.heap.size (w.heap.size + 1) ((w.alloc (.cells #[.string X.k, .int .i64 X.c, .int .i64 X.e] 49)).alloc (.cells #[.string Y.k, .int .i64 Y.c, .int .i64 Y.e] 49)) := by
  have hs := h.size
  exact ⟨(At3.new X w).go (b1 _), ⟨by go_simp, by go_simp, by go_simp⟩, h.go (b2 _ _), by omega, by omega⟩
theorem UnT.newB {w0 : World} {g : Nat} {O : List Ent} {o : Value} {r : Bool} {w : World} (h : UnS w0 g O o r w) (X Y : Ent) :
    UnT w0 g O o r X Y (w.heap.size + 1) w.heap.size ((w.alloc (.cells #[.string Y.k, .int .i64 Y.c, .int .i64 Y.e] 49)).alloc (.cells #[.string X.k, .int .i64 X.c, .int .i64 X.e] 49)) := by
  have hs := h.size
  exact ⟨⟨by go_simp, by go_simp, by go_simp⟩, (At3.new Y w).go (b1 _), h.go (b2 _ _), by omega, by omega⟩
theorem concat_new (A B C : List Ent) (va vb vc : Value) (w : World) (hA : RdE A va w) (hB : RdE B vb w) (hC : RdE C vc w) (hn : A.length + B.length + C.length ≤ 549755813888) :
    Calls Try.prog 67 #[.slice (some ⟨w.heap.size, 0, none⟩) 3 3] (w.alloc (.cells #[va, vb, vc] 23)) fun e w' => ∃ u, e = .returned u ∧ OwnE w.heap.size (A ++ B ++ C) u w' ∧ Below w.heap.size w w' := by
  refine (concat_any A B C va vb vc w.heap.size _ (by go_simp) (by go_simp) (by go_simp) (hA.below (b1 _)) (hB.below (b1 _)) (hC.below (b1 _)) hn (by simp)).mono ?_
  rintro e w' ⟨u, rfl, ho, hb⟩
  exact ⟨u, rfl, ho.mono (b1 _).size, bgo (b1 _) hb⟩
theorem concat_newD (A B C : List Ent) (va vb vc : Value) (w : World) (hA : RdE A va w) (hB : RdE B vb w) (hC : RdE C vc w) (hn : A.length + B.length + C.length ≤ 549755813888) :
    Calls Try.prog 67 #[.slice (some ⟨w.heap.size, 0, none⟩) 3 3] (w.alloc (.cells #[va, vb, vc] 23)).drew fun e w' => ∃ u, e = .returned u ∧ OwnE w.heap.size (A ++ B ++ C) u w' ∧ Below w.heap.size w w' := by
  refine (concat_any A B C va vb vc w.heap.size _ (by go_simp) (by go_simp) (by go_simp) (hA.below (b1 _).drew) (hB.below (b1 _).drew) (hC.below (b1 _).drew) hn (by simp)).mono ?_
  rintro e w' ⟨u, rfl, ho, hb⟩
  exact ⟨u, rfl, ho.mono (b1 _).size, bgo (b1 _).drew hb⟩
set_option maxRecDepth 100000 in
set_option maxHeartbeats 4000000 in
theorem union_any (L M : List Ent) (g : Nat) (r : Bool) (W w0 : World) (v u : Value) (hL : RdE L v W) (hM : RdE M u W) (hb : Below W.heap.size W w0) (hg : W.heap.size ≤ g) (hf : Fl g r w0) (hn : L.length + M.length ≤ 4294967296) :
    Calls Try.prog 53 #[.pointer (some ⟨g, 0, none⟩), v, u] w0 fun e w' => ∃ o, e = .returned o ∧ OwnE w0.heap.size (unL L M) o w' ∧ Fl g (r || unF L M) w' ∧ One g w0 w' := by
  have HRL := Lib.hid (fun (w' : World) (h : One g w0 w') => hL.below (hb.trans (h.below hg)))
  have HRM := Lib.hid (fun (w' : World) (h : One g w0 w') => hM.below (hb.trans (h.below hg)))
  have hyL := hL.1
  have hyM := hM.1
  have HTL := Lib.hid (fun (k : Nat) (hk : k ≤ L.length) => tlE_run hL k hk (by omega))
  have HTM := Lib.hid (fun (k : Nat) (hk : k ≤ M.length) => tlE_run hM k hk (by omega))
  obtain ⟨a, cap, rfl⟩ := hL.shape
  obtain ⟨a2, cap2, rfl⟩ := hM.shape
  have H0 : Hid (UnS w0 g [] (.slice none 0 0) r w0) := Lib.hid ⟨OwnE.empty _ _, hf, One.refl _ _, hf.lt⟩
  clear hL hM hb hg hf
  obtain ⟨V, hV⟩ : ∃ V, V = unL L M := ⟨_, rfl⟩
  obtain ⟨G, hG⟩ : ∃ G, G = (r || unF L M) := ⟨_, rfl⟩
  rw [← hV, ← hG]
  have HV := Lib.hid hV
  have HGG := Lib.hid hG
  clear hV hG
  go_enter Try.func53, Try.ntmps53
  go_wp2
  go_loopw [7, 8, 9, 10, 11, 12] (fun o i j _ _ _ wr => ∃ (k m : Nat) (O : List Ent) (q : Bool), k ≤ L.length ∧ m ≤ M.length ∧ O.length ≤ k + m ∧ i = .int .i64 (k : Int) ∧ j = .int .i64 (m : Int) ∧ Hid (UnS w0 g O o q wr) ∧ Hid (O ++ unL (L.drop k) (M.drop m) = V ∧ (q || unF (L.drop k) (M.drop m)) = G)) (fun _ i j _ _ _ _ => (L.length + M.length) - ((intOf i).toNat + (intOf j).toNat))
  case atStart => exact ⟨0, 0, [], r, by omega, by omega, by simp, rfl, rfl, H0, Lib.hid ⟨by rw [HV.out]; rfl, by rw [HGG.out]; rfl⟩⟩
  case round =>
    clear H0 HV HGG
    obtain ⟨k, m, O, q, hk, hm, hO, rfl, rfl, HI, HZ⟩ := hrel
    by_cases hlt : k < L.length ∧ m < M.length
    · obtain ⟨hlt, hmt⟩ := hlt
      have hlt2 : (k : Int) < (L.length : Int) := by omega
      have hmt2 : (m : Int) < (M.length : Int) := by omega
      obtain ⟨-, a1, cap1, he1, -, -, hc1⟩ := HRL.out wr HI.out.2.2.1
      simp only [Value.slice.injEq, true_and] at he1
      obtain ⟨rfl, rfl⟩ := he1
      obtain ⟨b, off, rfl, hb, hcell⟩ := hc1 (by omega)
      obtain ⟨c0, c1, c2⟩ := hcell k hlt
      obtain ⟨-, a3, cap3, he3, -, -, hc3⟩ := HRM.out wr HI.out.2.2.1
      simp only [Value.slice.injEq, true_and] at he3
      obtain ⟨rfl, rfl⟩ := he3
      obtain ⟨b3, off3, rfl, hb3, hcell3⟩ := hc3 (by omega)
      obtain ⟨e0, e1, e2⟩ := hcell3 m hmt
      clear hc1 hcell hc3 hcell3
      have hx := hyL.at_ k
      have hyy := hyM.at_ m
      obtain ⟨hz1, hz2⟩ := HZ.out
      rw [drop_at hlt, drop_at hmt, unL_cons] at hz1
      rw [drop_at hlt, drop_at hmt, unF_cons] at hz2
      have HDL := Lib.hid (drop_at hlt)
      have HDM := Lib.hid (drop_at hmt)
      generalize L.getD k Ent.z = X at *
      generalize M.getD m Ent.z = Y at *
      rw [← HDL.out, ← HDM.out] at hz1 hz2
      have HCK := Lib.hid (fun w => cmpKey_any X Y.k w)
      have HX := Lib.hid hx
      have HY := Lib.hid hyy
      have HLN : Hid (O.length + 1 ≤ 1099511627776) := Lib.hid (by omega)
      have HLX : Hid (O.length + [X].length ≤ 1099511627776) := Lib.hid (by simp; omega)
      have HLY : Hid (O.length + [Y].length ≤ 1099511627776) := Lib.hid (by simp; omega)
      clear hx hyy HZ
      have hlk : (k : Int) + 1 ≤ 9223372036854775807 := by omega
      have hlm : (m : Int) + 1 ≤ 9223372036854775807 := by omega
      go_upto_region 4 with (fail)
      refine wp_meetY 10 11 23 8 (fun v u wx => ∃ gx gy : Nat, v = .pointer (some ⟨gx, 0, none⟩) ∧ u = .pointer (some ⟨gy, 0, none⟩) ∧ Hid (UnT w0 g O u7 q X Y gx gy wx)) ?_ ?_
      · intro G' hG'
        go_big_region
        all_goals
          refine hG' _ _ _ _ ⟨[_, _, _, _, _, _, _, _], rfl, rfl⟩ ?_
          first
            | (with_reducible exact ⟨_, _, rfl, rfl, Lib.hid (UnT.newA HI.out X Y)⟩)
            | (with_reducible exact ⟨_, _, rfl, rfl, Lib.hid (UnT.newB HI.out X Y)⟩)
            | (with_reducible exact ⟨_, _, rfl, rfl, Lib.hid ((UnT.newA HI.out X Y).go (Below.refl _ _).drew)⟩)
            | (with_reducible exact ⟨_, _, rfl, rfl, Lib.hid ((UnT.newB HI.out X Y).go (Below.refl _ _).drew)⟩)
      · intro aX wX vX uX hoff hX
        obtain ⟨us, hus, rfl⟩ := hoff
        obtain ⟨gx, gy, rfl, rfl, HU⟩ := hX
        match us, hus with
        | [y0, y1, y2, y3, y4, y5, y6, y7], _ =>
          simp only [List.set_cons_succ, List.set_cons_zero, List.take_succ_cons, List.take_zero, List.drop_succ_cons, List.drop_zero, List.cons_append, List.nil_append]
          clear c0 c1 c2 e0 e1 e2 hb hb3
          obtain ⟨x0, x1, x2⟩ := HU.out.1.zero
          obtain ⟨z0, z1, z2⟩ := HU.out.2.1.zero
          have hck := cmpK_three X.k Y.k
          have hcb := cmpK_bd X.k Y.k
          generalize cmpK X.k Y.k = c at *
          rcases hck with ⟨h1, h2⟩ | ⟨h1, h3, h2, h4⟩ | ⟨h1, h3, h2, h4⟩
          · obtain rfl : c = -1 := by omega
            rw [if_pos h2] at hz1 hz2
            have HZ2 : Hid ((O ++ [X]) ++ unL (L.drop (k + 1)) (M.drop m) = V ∧ (q || unF (L.drop (k + 1)) (M.drop m)) = G) := Lib.hid ⟨by rw [List.append_assoc]; exact hz1, hz2⟩
            clear hz1 hz2 h2 h1
            go_upto_region 10 with (go_at_call 52; refine (HCK.out _).mono ?_; rintro e w6 ⟨rfl, hb6⟩; have U6 := Lib.hid (HU.out.go hb6); obtain ⟨x0, x1, x2⟩ := U6.out.1.zero; have HO6 := Lib.hid (U6.out.2.2.1.1.alloc (.cells #[.string X.k, .int .i64 X.c, .int .i64 X.e] 49)); have HS6 := Lib.hid (OwnE.one HX.out w6).rd.src; have HSZ6 : Hid (w0.heap.size ≤ (w6.alloc (.cells #[.string X.k, .int .i64 X.c, .int .i64 X.e] 49)).heap.size) := Lib.hid (Nat.le_trans U6.out.2.2.1.size (b1 _).size); clear hb6 HCK)
            go_upto_region 11 with (at_builtin; refine wp_appE rfl _ _ _ rfl w0.heap.size O [X] _ _ rfl rfl HO6.out HS6.out HSZ6.out HLX.out ?_; (intro v9 w9 ho9 hb9; have S9 := Lib.hid ((U6.out.2.2.1.go (b1 _)).grow ho9 hb9); clear ho9 hb9))
            go_wp2
            exact ⟨⟨k + 1, m, _, q, by omega, by omega, by simp; omega, by go_num, rfl, S9, HZ2⟩, by simp [intOf]; omega⟩
          · obtain rfl : c = 1 := by omega
            clear h1 h3
            rw [if_neg (by rw [h2]; simp), if_pos h4] at hz1 hz2
            have HZ2 : Hid ((O ++ [Y]) ++ unL (L.drop k) (M.drop (m + 1)) = V ∧ (q || unF (L.drop k) (M.drop (m + 1))) = G) := Lib.hid ⟨by rw [List.append_assoc]; exact hz1, hz2⟩
            clear hz1 hz2 h2 h4
            go_upto_region 13 with (go_at_call 52; refine (HCK.out _).mono ?_; rintro e w6 ⟨rfl, hb6⟩; have U6 := Lib.hid (HU.out.go hb6); obtain ⟨x0, x1, x2⟩ := U6.out.2.1.zero; have HO6 := Lib.hid (U6.out.2.2.1.1.alloc (.cells #[.string Y.k, .int .i64 Y.c, .int .i64 Y.e] 49)); have HS6 := Lib.hid (OwnE.one HY.out w6).rd.src; have HSZ6 : Hid (w0.heap.size ≤ (w6.alloc (.cells #[.string Y.k, .int .i64 Y.c, .int .i64 Y.e] 49)).heap.size) := Lib.hid (Nat.le_trans U6.out.2.2.1.size (b1 _).size); clear hb6 HCK)
            go_upto_region 14 with (at_builtin; refine wp_appE rfl _ _ _ rfl w0.heap.size O [Y] _ _ rfl rfl HO6.out HS6.out HSZ6.out HLY.out ?_; (intro v9 w9 ho9 hb9; have S9 := Lib.hid ((U6.out.2.2.1.go (b1 _)).grow ho9 hb9); clear ho9 hb9))
            go_wp2
            exact ⟨⟨k, m + 1, _, q, by omega, by omega, by simp; omega, rfl, by go_num, S9, HZ2⟩, by simp [intOf]; omega⟩
          · obtain rfl : c = 0 := by omega
            clear h1 h3
            rw [if_neg (by rw [h2]; simp), if_neg (by rw [h4]; simp)] at hz1 hz2
            have HZ2 : Hid ((O ++ [⟨X.k, tS X.c Y.c, 0⟩]) ++ unL (L.drop (k + 1)) (M.drop (m + 1)) = V ∧ ((q || tF X.c Y.c) || unF (L.drop (k + 1)) (M.drop (m + 1))) = G) := Lib.hid ⟨by rw [List.append_assoc]; exact hz1, by rw [Bool.or_assoc]; exact hz2⟩
            have HE : Hid ((⟨X.k, tS X.c Y.c, 0⟩ : Ent).ok) := Lib.hid (addE_ok (x := X) (y := Y) HX.out)
            have HAD := Lib.hid (fun (w : World) (h : Fl g q w) => addQ_one X.c Y.c g q w HX.out.2.1.1 HX.out.2.1.2 HY.out.2.1.1 HY.out.2.1.2 h)
            clear hz1 hz2 h2 h4
            generalize tS X.c Y.c = t at *
            generalize tF X.c Y.c = f at *
            go_upto_region 6 with (go_at_call 52; refine (HCK.out _).mono ?_; rintro e w6 ⟨rfl, hb6⟩; have U6 := Lib.hid (HU.out.go hb6); have D6 := Lib.hid (U6.out.go (Below.refl _ _).drew); have F6 := Lib.hid D6.out.2.2.1.2.1; obtain ⟨x0, x1, x2⟩ := D6.out.1.zero; obtain ⟨z0, z1, z2⟩ := D6.out.2.1.zero; clear hb6 HCK)
            go_region_law (first
              | ((try go_simp); go_at_call 55; (with_reducible refine (HAD.out _ F6.out).mono ?_); rintro e w7 ⟨rfl, hf7, ho7⟩; have U7 := Lib.hid (D6.out.one ho7 hf7); obtain ⟨x0, x1, x2⟩ := U7.out.1.zero; obtain ⟨z0, z1, z2⟩ := U7.out.2.1.zero; clear hf7 ho7)
              | (refine step_appE rfl _ _ _ rfl w0.heap.size O [(⟨X.k, t, 0⟩ : Ent)] _ _ rfl rfl (U7.out.2.2.1.1.alloc _) (OwnE.one HE.out w7).rd.src (Nat.le_trans U7.out.2.2.1.size (b1 _).size) HLN.out ?_; (intro v9 w9 ho9 hb9; have S9 := Lib.hid ((U7.out.2.2.1.go (b1 _)).grow ho9 hb9); clear ho9 hb9)))
            all_goals
              go_wp2
              exact ⟨⟨k + 1, m + 1, _, _, by omega, by omega, by simp; omega, by go_num, by go_num, S9, HZ2⟩, by simp [intOf]; omega⟩
    · have hzz : O ++ L.drop k ++ M.drop m = V ∧ q = G := by
        obtain ⟨h1, h2⟩ := HZ.out
        by_cases hkl : k < L.length
        · have : M.drop m = [] := by rw [List.drop_eq_nil_iff]; omega
          rw [this, unL_nil_right] at h1
          rw [this, unF_nil_right, Bool.or_false] at h2
          rw [this, List.append_nil]
          exact ⟨h1, h2⟩
        · have : L.drop k = [] := by rw [List.drop_eq_nil_iff]; omega
          rw [this, unL_nil_left] at h1
          rw [this, unF_nil_left, Bool.or_false] at h2
          rw [this, List.append_nil]
          exact ⟨h1, h2⟩
      obtain ⟨hz1, hz2⟩ := hzz
      subst hz2
      have HZ1 := Lib.hid hz1
      clear hz1 HZ
      have hs1 := HTL.out k hk
      have hs2 := HTM.out m hm
      have hr1 := (HRL.out wr HI.out.2.2.1).tl k hk
      have hr2 := (HRM.out wr HI.out.2.2.1).tl m hm
      obtain ⟨aT, cT, hT⟩ := hr1.shape
      obtain ⟨aU, cU, hU⟩ := hr2.shape
      rw [hT] at hr1 hs1
      rw [hU] at hr2 hs2
      have HR1 := Lib.hid hr1
      have HR2 := Lib.hid hr2
      obtain ⟨a7, cap7, rfl⟩ := HI.out.1.rd.shape
      have HCD := Lib.hid (fun (w' : World) (h : Below wr.heap.size wr w') => concat_newD O (L.drop k) (M.drop m) (.slice a7 O.length cap7) (.slice aT (L.drop k).length cT) (.slice aU (M.drop m).length cU) w' (HI.out.1.rd.below h) (hr1.below h) (hr2.below h) (by simp; omega))
      have HCN := Lib.hid (fun (w' : World) (h : Below wr.heap.size wr w') => concat_new O (L.drop k) (M.drop m) (.slice a7 O.length cap7) (.slice aT (L.drop k).length cT) (.slice aU (M.drop m).length cU) w' (HI.out.1.rd.below h) (hr1.below h) (hr2.below h) (by simp; omega))
      clear hr1 hr2 hT hU HTL HTM HRL HRM
      generalize (L.drop k).length = nT at *
      generalize (M.drop m).length = nU at *
      have hdis : ¬ ((k : Int) < (L.length : Int) ∧ (m : Int) < (M.length : Int)) := by omega
      by_cases hkl : (k : Int) < (L.length : Int)
      · have hml : ¬ (m : Int) < (M.length : Int) := fun h => hdis ⟨hkl, h⟩
        clear hdis hlt
        go_upto_region 15 with (fail)
        go_region_law (go_simp; go_at_call 67; (first | (with_reducible refine (HCN.out _ (by first | exact Below.refl _ _ | exact (Below.refl _ _).drew)).mono ?_) | (with_reducible refine (HCD.out _ (by first | exact Below.refl _ _ | exact (Below.refl _ _).drew)).mono ?_)); rintro e w8 ⟨u8, rfl, ho8, hb8⟩; have S8 : Hid (UnS w0 g _ u8 q w8) := Lib.hid ((by first | exact HI.out.go (Below.refl _ _).drew | exact HI.out : UnS w0 g O _ q _).grow (ho8.mono (by first | exact HI.out.size | exact (HI.out.go (Below.refl _ _).drew).size)) (hb8.mono (by first | exact HI.out.size | exact (HI.out.go (Below.refl _ _).drew).size))); clear ho8 hb8)
        all_goals
          go_wp2
          go_ret
          exact ⟨_, rfl, by rw [← HZ1.out]; exact S8.out.1, S8.out.2.1, S8.out.2.2.1⟩
      · clear hdis hlt
        go_upto_region 15 with (fail)
        go_region_law (go_simp; go_at_call 67; (first | (with_reducible refine (HCN.out _ (by first | exact Below.refl _ _ | exact (Below.refl _ _).drew)).mono ?_) | (with_reducible refine (HCD.out _ (by first | exact Below.refl _ _ | exact (Below.refl _ _).drew)).mono ?_)); rintro e w8 ⟨u8, rfl, ho8, hb8⟩; have S8 : Hid (UnS w0 g _ u8 q w8) := Lib.hid ((by first | exact HI.out.go (Below.refl _ _).drew | exact HI.out : UnS w0 g O _ q _).grow (ho8.mono (by first | exact HI.out.size | exact (HI.out.go (Below.refl _ _).drew).size)) (hb8.mono (by first | exact HI.out.size | exact (HI.out.go (Below.refl _ _).drew).size))); clear ho8 hb8)
        all_goals
          go_wp2
          go_ret
          exact ⟨_, rfl, by rw [← HZ1.out]; exact S8.out.1, S8.out.2.1, S8.out.2.2.1⟩
end Go.Proofs.Ytmmdnomfpfcjiaa
