/- The readers of layer 10, of both sides; what is read, as lists. -/
import Derived.Test.YtmmdnomfpfcjiaaFcA
import Derived.Test.YtmmdnomfpfcjiaaRdrN
import Derived.Test.YtmmdnomfpfcjiaaWires
import Derived.Test.YtmmdnomfpfcjiaaWireFacts
import Derived.Deep.RegionLaw
namespace Go.Proofs.Ytmmdnomfpfcjiaa
open Go.RowKit
set_option linter.unusedVariables false
set_option linter.unusedSimpArgs false
/-- An entry's variable in block g, all zeros. -/
def En3 (g : Nat) (w : World) : Prop := (w.cell? ⟨g, 0, none⟩ = some (.string ⟨#[]⟩) ∧ w.cell? ⟨g, 1, none⟩ = some (.int .i64 0) ∧ w.cell? ⟨g, 2, none⟩ = some (.int .i64 0)) ∧ w.frozen? ⟨g, 0, none⟩ = false ∧ w.frozen? ⟨g, 1, none⟩ = false ∧ w.frozen? ⟨g, 2, none⟩ = false
theorem En3.keep {g : Nat} {w w' : World} (h : En3 g w) (hb : w'.heap[g]? = w.heap[g]?) : En3 g w' := by
  obtain ⟨⟨h0, h1, h2⟩, f0, f1, f2⟩ := h
  have hc : ∀ o, w'.cell? ⟨g, o, none⟩ = w.cell? ⟨g, o, none⟩ := fun o => World.cell?_of_block (w := w) (a := ⟨g, o, none⟩) hb
  have hf : ∀ o, w'.frozen? ⟨g, o, none⟩ = w.frozen? ⟨g, o, none⟩ := fun o => World.frozen?_of_block (w := w) (a := ⟨g, o, none⟩) hb
  exact ⟨⟨(hc _).trans h0, (hc _).trans h1, (hc _).trans h2⟩, (hf _).trans f0, (hf _).trans f1, (hf _).trans f2⟩
theorem En3.new (w : World) : En3 w.heap.size (w.alloc (.cells #[.string ⟨#[]⟩, .int .i64 0, .int .i64 0] 49)) := ⟨⟨by go_simp, by go_simp, by go_simp⟩, by go_simp, by go_simp, by go_simp⟩
theorem OwnE.turn {B g : Nat} {L : List Ent} {v : Value} {w w' : World} (h : OwnE B L v w) (ho : One g w w') (hg : g < B) : OwnE B L v w' := by
  obtain ⟨hy, h1, h2⟩ := h
  refine ⟨hy, h1, ?_⟩
  rcases h2 with h2 | ⟨b, cap, cur, rfl, hb', hg', r⟩
  · exact .inl h2
  · exact .inr ⟨b, cap, cur, rfl, hb', (ho.2.2 b (Array.getElem?_eq_some_iff.1 hg').1 (by omega)).trans hg', r⟩
/-- A reader in memory: what is left, whether something was wrong. -/
def PSt (g : Nat) (v : Value) (f : Bool) (w : World) : Prop :=
  (w.cell? ⟨g, 0, none⟩ = some v ∧ w.cell? ⟨g, 1, none⟩ = some (.bool f)) ∧ w.frozen? ⟨g, 0, none⟩ = false ∧ w.frozen? ⟨g, 1, none⟩ = false
theorem PSt.keep {g : Nat} {v : Value} {f : Bool} {w w' : World} (h : PSt g v f w) (hb : w'.heap[g]? = w.heap[g]?) : PSt g v f w' := by
  obtain ⟨⟨h0, h1⟩, f0, f1⟩ := h
  exact ⟨⟨(World.cell?_of_block (w := w) (a := ⟨g, 0, none⟩) hb).trans h0, (World.cell?_of_block (w := w) (a := ⟨g, 1, none⟩) hb).trans h1⟩, (World.frozen?_of_block (w := w) (a := ⟨g, 0, none⟩) hb).trans f0, (World.frozen?_of_block (w := w) (a := ⟨g, 1, none⟩) hb).trans f1⟩
theorem PSt.below {g : Nat} {v : Value} {f : Bool} {w w' : World} (h : PSt g v f w) {B : Nat} (hb : Below B w w') (hg : g < B) : PSt g v f w' := h.keep (hb.block g hg)
theorem PSt.size {g : Nat} {v : Value} {f : Bool} {w : World} (h : PSt g v f w) : g < w.heap.size := block_lt_of_cell h.1.1
theorem PSt.far {g : Nat} {v : Value} {f : Bool} {w : World} (h : PSt g v f w) {b : Nat} (hb : g ≠ b) (o : Nat) (u : Value) : PSt g v f (w.setCell ⟨b, o, none⟩ u) :=
  h.keep (Below.heap_setCell w ⟨b, o, none⟩ u g hb)
theorem PSt.set {g : Nat} {v : Value} {f : Bool} {w : World} (h : PSt g v f w) (a : Option Addr) (n c : Nat) (t : Bool) : PSt g (.slice a n c) t ((w.setCell ⟨g, 0, none⟩ (.slice a n c)).setCell ⟨g, 1, none⟩ (.bool t)) := by
  obtain ⟨⟨h0, h1⟩, f0, f1⟩ := h
  exact ⟨⟨by go_simp, by go_simp⟩, by go_simp, by go_simp⟩
theorem tlV_shape {L : List Int} {v : Value} {w : World} (h : Rd L v w) (k : Nat) (hk : k ≤ L.length) : ∃ a n c, tlV v k = .slice a n c := by
  obtain ⟨_, a, c, h', _⟩ := (h.tl k hk)
  exact ⟨a, _, c, h'⟩
/-- Bounds on what is read as a string. -/
theorem decT_bd {L : List Int} (hy : Byt L) : 0 ≤ (decT L).2.1 ∧ (decT L).2.1 ≤ L.length ∧ (decT L).1.length ≤ 65536 := by
  obtain ⟨b0, b1, b2, b3, b4, b5, b6, b7⟩ := decU_bd hy
  unfold decT
  split
  · simp
  · split
    · simp
    · split
      · simp
      · simp only [List.length_drop, List.length_take]
        omega
/-- What follows a string. -/
def restT (L : List Int) : List Int := L.drop (decT L).2.1.toNat
set_option maxRecDepth 100000 in
theorem skip_any (g : Nat) (R : List Int) (v : Value) (f : Bool) (j : Nat) (E : Int) (w W : World) (h : Rd R v W) (hj : j ≤ R.length) (hp : PSt g v f w) :
    Calls Try.prog 62 #[.pointer (some ⟨g, 0, none⟩), .int .i64 j, .int .i64 E] w fun e w' =>
      e = .returned (.tuple #[]) ∧ w' = (w.setCell ⟨g, 0, none⟩ (tlV v j)).setCell ⟨g, 1, none⟩ (.bool (f || E != 0)) := by
  have hr := fun w => tlV_run h j hj w
  obtain ⟨a, n, c, hv⟩ := tlV_shape h j hj
  rw [hv] at hr ⊢
  obtain ⟨⟨c0, c1⟩, f0, f1⟩ := hp
  clear h hj hv
  cases f
  all_goals
    go_enter Try.func62, Try.ntmps62
    go_wp2
    refine bodyPost_end (v := .tuple #[]) (by simp [results, Try.results62, go_sem]) rfl ⟨rfl, ?_⟩
    rfl
set_option maxRecDepth 100000 in
theorem pnum_any (g : Nat) (R : List Int) (v : Value) (f : Bool) (w W : World) (h : Rd R v W) (hb : Below W.heap.size W w) (hp : PSt g v f w) :
    Calls Try.prog 46 #[.pointer (some ⟨g, 0, none⟩)] w fun e w' =>
      e = .returned (.int .i64 (decU R).1) ∧ w' = (w.setCell ⟨g, 0, none⟩ (tlV v (decU R).2.1.toNat)).setCell ⟨g, 1, none⟩ (.bool (f || (decU R).2.2 != 0)) := by
  obtain ⟨b0, b1, b2, b3, b4, b5, b6, b7⟩ := decU_bd h.1
  have hd := decUint_any R v w (h.below hb)
  have hs := skip_any g R v f (decU R).2.1.toNat (decU R).2.2 w W h (by omega) hp
  have hju : (((decU R).2.1.toNat : Nat) : Int) = (decU R).2.1 := by omega
  rw [hju] at hs
  obtain ⟨⟨c0, c1⟩, f0, f1⟩ := hp
  obtain ⟨a, n, c, rfl⟩ : ∃ a n c, v = .slice a n c := by
    obtain ⟨_, a, c, h', _⟩ := h
    exact ⟨a, _, c, h'⟩
  clear h hb hju b0 b1 b2 b3 b4 b5 b6 b7
  generalize tlV (.slice a n c) (decU R).2.1.toNat = u at *
  generalize (decU R).1 = x at *
  generalize (decU R).2.1 = y at *
  generalize (decU R).2.2 = z at *
  go_enter Try.func46, Try.ntmps46
  go_wp2_with (first
    | (go_at_call 61; refine hd.mono ?_; rintro e w' ⟨rfl, rfl⟩)
    | (go_at_call 62; refine hs.mono ?_; rintro e w' ⟨rfl, rfl⟩))
  go_ret
  exact ⟨rfl, rfl⟩
set_option maxRecDepth 100000 in
theorem ptxt_any (g : Nat) (R : List Int) (v : Value) (f : Bool) (w W : World) (h : Rd R v W) (hb : Below W.heap.size W w) (hp : PSt g v f w) :
    Calls Try.prog 63 #[.pointer (some ⟨g, 0, none⟩)] w fun e w' =>
      e = .returned (.string (strOfNums (decT R).1)) ∧ w' = (w.setCell ⟨g, 0, none⟩ (tlV v (decT R).2.1.toNat)).setCell ⟨g, 1, none⟩ (.bool (f || (decT R).2.2 != 0)) := by
  obtain ⟨b2, b3, b4⟩ := decT_bd h.1
  have hd := decText_any R v w (h.below hb)
  have hs := skip_any g R v f (decT R).2.1.toNat (decT R).2.2 w W h (by omega) hp
  have hju : (((decT R).2.1.toNat : Nat) : Int) = (decT R).2.1 := by omega
  rw [hju] at hs
  obtain ⟨⟨c0, c1⟩, f0, f1⟩ := hp
  obtain ⟨a, n, c, rfl⟩ : ∃ a n c, v = .slice a n c := by
    obtain ⟨_, a, c, h', _⟩ := h
    exact ⟨a, _, c, h'⟩
  clear h hb hju b2 b3 b4
  generalize tlV (.slice a n c) (decT R).2.1.toNat = u at *
  generalize strOfNums (decT R).1 = x at *
  generalize (decT R).2.1 = y at *
  generalize (decT R).2.2 = z at *
  go_enter Try.func63, Try.ntmps63
  go_wp2_with (first
    | (go_at_call 74; refine hd.mono ?_; rintro e w' ⟨rfl, rfl⟩)
    | (go_at_call 62; refine hs.mono ?_; rintro e w' ⟨rfl, rfl⟩))
  go_ret
  exact ⟨rfl, rfl⟩
/-- A reader at the bytes R, as they lay in the world W. -/
def DS (W : World) (g : Nat) (R : List Int) (f : Bool) (w : World) : Prop := ∃ v, PSt g v f w ∧ Rd R v W
theorem DS.keep {W : World} {g : Nat} {R : List Int} {f : Bool} {w w' : World} (h : DS W g R f w) (hb : w'.heap[g]? = w.heap[g]?) : DS W g R f w' := by
  obtain ⟨v, h1, h2⟩ := h
  exact ⟨v, h1.keep hb, h2⟩
theorem DS.size {W : World} {g : Nat} {R : List Int} {f : Bool} {w : World} (h : DS W g R f w) : g < w.heap.size := by
  obtain ⟨v, h1, h2⟩ := h
  exact h1.size
theorem DS.byt {W : World} {g : Nat} {R : List Int} {f : Bool} {w : World} (h : DS W g R f w) : Byt R := by
  obtain ⟨v, h1, h2⟩ := h
  exact h2.1
theorem dnum_any {W : World} {g : Nat} {R : List Int} {f : Bool} {w : World} (h : DS W g R f w) (hb : Below W.heap.size W w) :
    Calls Try.prog 46 #[.pointer (some ⟨g, 0, none⟩)] w fun e w' =>
      e = .returned (.int .i64 (decU R).1) ∧ DS W g (restU R) (f || (decU R).2.2 != 0) w' ∧ Oth g w w' := by
  obtain ⟨v, h1, h2⟩ := h
  have hj : (decU R).2.1.toNat ≤ R.length := by have := decU_bd h2.1; omega
  refine (pnum_any g R v f w W h2 hb h1).mono ?_
  rintro e w' ⟨rfl, rfl⟩
  obtain ⟨a, n, c, hv⟩ := tlV_shape h2 _ hj
  refine ⟨rfl, ⟨tlV v (decU R).2.1.toNat, ?_, h2.tl _ hj⟩, Oth.two _ _ _ _⟩
  rw [hv]
  exact h1.set a n c _
theorem dtxt_any {W : World} {g : Nat} {R : List Int} {f : Bool} {w : World} (h : DS W g R f w) (hb : Below W.heap.size W w) :
    Calls Try.prog 63 #[.pointer (some ⟨g, 0, none⟩)] w fun e w' =>
      e = .returned (.string (strOfNums (decT R).1)) ∧ DS W g (restT R) (f || (decT R).2.2 != 0) w' ∧ Oth g w w' := by
  obtain ⟨v, h1, h2⟩ := h
  have hj : (decT R).2.1.toNat ≤ R.length := by have := decT_bd h2.1; omega
  refine (ptxt_any g R v f w W h2 hb h1).mono ?_
  rintro e w' ⟨rfl, rfl⟩
  obtain ⟨a, n, c, hv⟩ := tlV_shape h2 _ hj
  refine ⟨rfl, ⟨tlV v (decT R).2.1.toNat, ?_, h2.tl _ hj⟩, Oth.two _ _ _ _⟩
  rw [hv]
  exact h1.set a n c _
/-- The entry that is read at the bytes R, what follows it, whether something was wrong. -/
def eE (R : List Int) : Ent := ⟨strOfNums (decT R).1, (decU (restT R)).1, 0⟩
def rE (R : List Int) : List Int := restU (restT R)
def fE (R : List Int) : Bool := (decT R).2.2 != 0 || (decU (restT R)).2.2 != 0
theorem Oth.turn {g : Nat} {w w' : World} (h : Oth g w w') : One g w w' := ⟨h.1, h.1.size, fun b _ hn => h.2 b hn⟩
theorem One.put {g : Nat} {w w' : World} (h : One g w w') (hg : g < w.heap.size) (o : Nat) (v : Value) : One g w (w'.setCell ⟨w.heap.size, o, none⟩ v) :=
  ⟨h.1.setCell (p := ⟨w.heap.size, o, none⟩) (Nat.le_of_lt hg) v, by have := h.2.1; simpa using this, fun b hb hn => (Below.heap_setCell w' ⟨w.heap.size, o, none⟩ v b (Nat.ne_of_lt hb)).trans (h.2.2 b hb hn)⟩
set_option maxRecDepth 100000 in
theorem dent_any {W : World} {g : Nat} {R : List Int} {f : Bool} {w : World} (h : DS W g R f w) (hb : Below W.heap.size W w) (hW : W.heap.size ≤ g) :
    Calls Try.prog 47 #[.pointer (some ⟨g, 0, none⟩)] w fun e w' =>
      e = .returned (.agg #[.string (eE R).k, .int .i64 (eE R).c, .int .i64 (eE R).e]) ∧ DS W g (rE R) (f || fE R) w' ∧ One g w w' := by
  have hg := h.size
  have D0 := Lib.hid (h.keep (Below.heap_alloc w (.cells #[.string ⟨#[]⟩, .int .i64 0, .int .i64 0] 49) g h.size))
  have B0 := Lib.hid (bal hb (.cells #[.string ⟨#[]⟩, .int .i64 0, .int .i64 0] 49))
  have O0 := Lib.hid (One.of (b1 (a := w) (.cells #[.string ⟨#[]⟩, .int .i64 0, .int .i64 0] 49)) hg)
  have E0 := Lib.hid (En3.new w)
  clear h hb
  have hK : (eE R).k = strOfNums (decT R).1 := rfl
  have hC : (eE R).c = (decU (restT R)).1 := rfl
  have hX : (eE R).e = 0 := rfl
  rw [hK, hC, hX]
  clear hK hC hX
  go_enter Try.func47, Try.ntmps47
  go_wp2_with fail
  go_at_call 63
  refine (dtxt_any D0.out B0.out).mono ?_
  rintro e w2 ⟨rfl, hd2, ho2⟩
  have D2 := Lib.hid hd2
  have B2 := Lib.hid (B0.out.trans (ho2.1.mono hW))
  have E2 := Lib.hid (E0.out.keep (ho2.2 _ (by omega)))
  have O2 := Lib.hid (O0.out.trans ho2.turn)
  clear hd2 ho2 D0 B0 E0 O0
  go_wp2_with fail
  go_at_call 46
  refine (dnum_any D2.out B2.out).mono ?_
  rintro e w3 ⟨rfl, hd3, ho3⟩
  have D4 : Hid (DS W g (rE R) (f || fE R) w3) := Lib.hid (by have e : (f || fE R) = ((f || (decT R).2.2 != 0) || (decU (restT R)).2.2 != 0) := (by unfold fE; simp only [Bool.or_assoc]); rw [e]; exact hd3)
  have E4 := Lib.hid (E2.out.keep (ho3.2 _ (by omega)))
  have O4 := Lib.hid (O2.out.trans ho3.turn)
  clear hd3 ho3 D2 B2 E2 O2
  obtain ⟨⟨c0, c1, c2⟩, f0, f1, f2⟩ := E4.out
  go_wp2_with fail
  refine bodyPost_ret (v := .agg #[.string (strOfNums (decT R).1), .int .i64 (decU (restT R)).1, .int .i64 0]) (by simp [results, Try.results47, go_sem, *]) rfl ⟨rfl, ?_⟩
  exact ⟨((D4.out.keep (Below.heap_setCell _ ⟨w.heap.size, 0, none⟩ _ _ (Nat.ne_of_lt hg))).keep (Below.heap_setCell _ ⟨w.heap.size, 1, none⟩ _ _ (Nat.ne_of_lt hg))).keep (Below.heap_setCell _ ⟨w.heap.size, 2, none⟩ _ _ (Nat.ne_of_lt hg)), ((O4.out.put hg 0 _).put hg 1 _).put hg 2 _⟩
set_option maxRecDepth 100000 in
set_option maxHeartbeats 2000000 in
theorem text_good (g : Nat) (L : List Int) (v : Value) (k : Nat) (w : World) (h : Rd L v w) (hk : k ≤ L.length)
    (c0 : w.cell? ⟨g, 0, none⟩ = some v) (c1 : w.cell? ⟨g, 1, none⟩ = some (.int .i64 (k : Int))) (c2 : w.cell? ⟨g, 2, none⟩ = some (.bool false)) (f1 : w.frozen? ⟨g, 1, none⟩ = false) (hg : (decT (L.drop k)).2.2 = 0) :
    Calls Try.prog 49 #[.pointer (some ⟨g, 0, none⟩)] w fun e w' =>
      e = .returned (.string (strOfNums (decT (L.drop k)).1)) ∧ ∃ m, w' = (w.setCell ⟨g, 1, none⟩ (.int .i64 ((k : Int) + (decT (L.drop k)).2.1))).drewN m := by
  have hr := fun w => tlV_run h k hk w
  have ht := h.tl k hk
  have hd := fun n => rdecText_any (L.drop k) (tlV v k) (w.drewN n) ht
  obtain ⟨b2, b3, b4⟩ := decT_bd ht.1
  have hl : (k : Int) + (decT (L.drop k)).2.1 ≤ 9223372036854775807 := by
    obtain ⟨_, _, _, _, h1, h2, _⟩ := h
    unfold maxLen at h2
    rw [List.length_drop] at b3
    omega
  generalize tlV v k = u at *
  generalize strOfNums (decT (L.drop k)).1 = n at *
  generalize (decT (L.drop k)).2.1 = j at *
  generalize (decT (L.drop k)).2.2 = e at *
  subst hg
  clear h ht b3
  go_enter Try.func49, Try.ntmps49
  go_wp2
  go_quiet ((go_at_call 65; exact quiet_left (hd _)))
  go_wp2
  go_ret
  exact ⟨rfl, _, rfl⟩
set_option maxRecDepth 100000 in
set_option maxHeartbeats 2000000 in
theorem text_bad (g : Nat) (L : List Int) (v : Value) (k : Nat) (b : Bool) (w : World) (h : Rd L v w) (hk : k ≤ L.length)
    (c0 : w.cell? ⟨g, 0, none⟩ = some v) (c1 : w.cell? ⟨g, 1, none⟩ = some (.int .i64 (k : Int))) (c2 : w.cell? ⟨g, 2, none⟩ = some (.bool b)) (f2 : w.frozen? ⟨g, 2, none⟩ = false) (hg : b = true ∨ (decT (L.drop k)).2.2 ≠ 0) :
    Calls Try.prog 49 #[.pointer (some ⟨g, 0, none⟩)] w fun e w' =>
      e = .returned (.string ⟨#[]⟩) ∧ ∃ m, w' = (w.setCell ⟨g, 2, none⟩ (.bool true)).drewN m := by
  have hr := fun w => tlV_run h k hk w
  have ht := h.tl k hk
  have hd := fun n => rdecText_any (L.drop k) (tlV v k) (w.drewN n) ht
  generalize tlV v k = u at *
  generalize strOfNums (decT (L.drop k)).1 = n at *
  generalize (decT (L.drop k)).2.1 = j at *
  generalize (decT (L.drop k)).2.2 = e at *
  have hll : (L.length : Int) ≤ 9223372036854775807 := by
    obtain ⟨_, _, _, _, h1, h2, _⟩ := h
    unfold maxLen at h2
    omega
  clear h ht
  by_cases hb : b = true
  · subst hb
    clear hg
    go_enter Try.func49, Try.ntmps49
    go_wp2
    go_quiet ((go_at_call 65; exact quiet_left (hd _)))
    go_wp2
    go_ret
    exact ⟨rfl, _, rfl⟩
  · have hb' : b = false := by simpa using hb
    subst hb'
    have he : e ≠ 0 := by
      rcases hg with h | h
      · cases h
      · exact h
    have he' : (e != 0) = true := by simp [he]
    clear hb hg he
    go_enter Try.func49, Try.ntmps49
    go_wp2
    go_quiet ((go_at_call 65; exact quiet_left (hd _)))
    go_wp2
    go_ret
    exact ⟨rfl, _, rfl⟩
/-- What one reading of a string gives. -/
def TxtP (R : List Int) (b : Bool) (x : ByteArray) (b' : Bool) (R' : List Int) : Prop :=
  (b = false ∧ (decT R).2.2 = 0 ∧ x = strOfNums (decT R).1 ∧ b' = false ∧ R' = restT R) ∨ ((b = true ∨ (decT R).2.2 ≠ 0) ∧ x = ⟨#[]⟩ ∧ b' = true ∧ R' = R)
theorem rtxt_any {W : World} {g : Nat} {L R : List Int} {b : Bool} {w : World} (h : RS W g L R b w) (hb : Below W.heap.size W w) :
    Calls Try.prog 49 #[.pointer (some ⟨g, 0, none⟩)] w fun e w' =>
      ∃ x b' R', e = .returned (.string x) ∧ TxtP R b x b' R' ∧ RS W g L R' b' w' ∧ Oth g w w' := by
  obtain ⟨v, k, h1, h2, rfl, ⟨c0, c1, c2⟩, f0, f1, f2⟩ := h
  by_cases hg : b = false ∧ (decT (L.drop k)).2.2 = 0
  · obtain ⟨rfl, hg⟩ := hg
    refine (text_good g L v k w (h1.below hb) h2 c0 c1 c2 f1 hg).mono ?_
    rintro e w' ⟨rfl, m, rfl⟩
    have hbd := decT_bd (h1.1.drop k)
    rw [List.length_drop] at hbd
    have e1 : (k : Int) + (decT (L.drop k)).2.1 = ((k + (decT (L.drop k)).2.1.toNat : Nat) : Int) := by omega
    refine ⟨_, false, restT (L.drop k), rfl, .inl ⟨rfl, hg, rfl, rfl, rfl⟩, ⟨v, k + (decT (L.drop k)).2.1.toNat, h1, by omega, by unfold restT; rw [List.drop_drop], ?_⟩, Oth.one _ _ _ _ _⟩
    rw [e1]
    exact ⟨⟨by go_simp, by go_simp, by go_simp⟩, by go_simp, by go_simp, by go_simp⟩
  · have hg' : b = true ∨ (decT (L.drop k)).2.2 ≠ 0 := by
      by_cases hbt : b = true
      · exact .inl hbt
      · exact .inr fun h => hg ⟨by simpa using hbt, h⟩
    refine (text_bad g L v k b w (h1.below hb) h2 c0 c1 c2 f2 hg').mono ?_
    rintro e w' ⟨rfl, m, rfl⟩
    exact ⟨⟨#[]⟩, true, L.drop k, rfl, .inr ⟨hg', rfl, rfl, rfl⟩, ⟨v, k, h1, h2, rfl, ⟨by go_simp, by go_simp, by go_simp⟩, by go_simp, by go_simp, by go_simp⟩, Oth.one _ _ _ _ _⟩
theorem restU_byt {R : List Int} (h : Byt R) : Byt (restU R) := h.drop _
theorem restT_byt {R : List Int} (h : Byt R) : Byt (restT R) := h.drop _
theorem rE_byt {R : List Int} (h : Byt R) : Byt (rE R) := restU_byt (restT_byt h)
/-- What is left, whether something was wrong, the entries, k of them read. -/
def rsE (R : List Int) : Nat → List Int
  | 0 => R
  | k + 1 => rE (rsE R k)
def flE (F : Bool) (R : List Int) : Nat → Bool
  | 0 => F
  | k + 1 => flE F R k || fE (rsE R k)
def esE (R : List Int) : Nat → List Ent
  | 0 => []
  | k + 1 => esE R k ++ [eE (rsE R k)]
theorem rsE_byt {R : List Int} (h : Byt R) : ∀ k, Byt (rsE R k)
  | 0 => h
  | k + 1 => rE_byt (rsE_byt h k)
theorem eE_ok {R : List Int} (h : Byt R) : (eE R).ok := by
  have h1 := (decT_bd h).2.2
  have h2 := decU_bd (restT_byt h)
  refine ⟨?_, ⟨?_, ?_⟩, ?_, ?_⟩
  · show (strOfNums (decT R).1).size ≤ maxLen
    rw [strOfNums_size]
    unfold maxLen
    omega
  all_goals
    simp only [eE]
    omega
theorem eE_pos {R : List Int} (h : Byt R) : 0 ≤ (eE R).c := (decU_bd (restT_byt h)).1
theorem esE_len (R : List Int) : ∀ k, (esE R k).length = k
  | 0 => rfl
  | k + 1 => by simp [esE, esE_len R k]
theorem esE_ok {R : List Int} (h : Byt R) : ∀ k, EOk (esE R k)
  | 0 => EOk.nil
  | k + 1 => (esE_ok h k).app (EOk.one (eE_ok (rsE_byt h k)))
theorem esE_at {R : List Int} {k : Nat} : ∀ {n : Nat}, k < n → (esE R n).getD k Ent.z = eE (rsE R k)
  | 0, h => by omega
  | n + 1, h => by
    by_cases hk : k < n
    · have := esE_at (R := R) hk
      simp only [esE]
      rw [← this]
      simp [List.getD, List.getElem?_append_left (show k < (esE R n).length by rw [esE_len]; exact hk)]
    · obtain rfl : k = n := by omega
      simp only [esE]
      simp [List.getD, List.getElem?_append_right (show (esE R k).length ≤ k by rw [esE_len]; omega), esE_len]
theorem flE_mono {F : Bool} {R : List Int} {k : Nat} : ∀ {n : Nat}, k ≤ n → flE F R k = true → flE F R n = true
  | 0, h, hf => by rw [show k = 0 from by omega] at hf; exact hf
  | n + 1, h, hf => by
    by_cases hk : k ≤ n
    · simp only [flE, flE_mono hk hf, Bool.true_or]
    · obtain rfl : k = n + 1 := by omega
      exact hf
/-- The head's numbers, what follows it, whether it was wrong. -/
def qS (L : List Int) : Int := (decU L).1
def qT (L : List Int) : Int := (decU (restU L)).1
def qK (L : List Int) : Int := (decU (restU (restU L))).1
def qX (L : List Int) : Int := (decU (restU (restU (restU L)))).1
def qN (L : List Int) : Int := (decU (restU (restU (restU (restU L))))).1
def qR (L : List Int) : List Int := restU (restU (restU (restU (restU L))))
def qF (L : List Int) : Bool := (((((false || (decU L).2.2 != 0) || (decU (restU L)).2.2 != 0) || (decU (restU (restU L))).2.2 != 0) || (decU (restU (restU (restU L)))).2.2 != 0) || (decU (restU (restU (restU (restU L))))).2.2 != 0)
/-- A summary's encoding. -/
def OkC (L : List Int) : Prop := qX L ≤ 1 ∧ qN L ≤ 32 ∧ flE (qF L) (qR L) (qN L).toNat = false ∧ rsE (qR L) (qN L).toNat = [] ∧ valQ (qS L) (qT L) (qK L) (esE (qR L) (qN L).toNat) = 0
instance (L : List Int) : Decidable (OkC L) := by unfold OkC; infer_instance
def decC (L : List Int) : FQ := if OkC L then ⟨qS L, qT L, qK L, esE (qR L) (qN L).toNat, qX L == 1⟩ else ⟨0, 0, 0, [], false⟩
def errC (L : List Int) : Int := if OkC L then 0 else 2
theorem decC_no {L : List Int} (h : ¬ OkC L) : decC L = ⟨0, 0, 0, [], false⟩ ∧ errC L = 2 := ⟨if_neg h, if_neg h⟩
theorem decC_yes {L : List Int} (h : OkC L) : decC L = ⟨qS L, qT L, qK L, esE (qR L) (qN L).toNat, qX L == 1⟩ ∧ errC L = 0 := ⟨if_pos h, if_pos h⟩
theorem headC_byt {L : List Int} (h : Byt L) : Byt (qR L) := restU_byt (restU_byt (restU_byt (restU_byt (restU_byt h))))
theorem headC_bd {L : List Int} (h : Byt L) : (0 ≤ qS L ∧ qS L ≤ 4611686018427387904) ∧ (0 ≤ qT L ∧ qT L ≤ 4611686018427387904) ∧ (0 ≤ qK L ∧ qK L ≤ 4611686018427387904) ∧ (0 ≤ qX L ∧ qX L ≤ 4611686018427387904) ∧ 0 ≤ qN L ∧ qN L ≤ 4611686018427387904 := by
  have h0 := decU_bd h
  have h1 := decU_bd (restU_byt h)
  have h2 := decU_bd (restU_byt (restU_byt h))
  have h3 := decU_bd (restU_byt (restU_byt (restU_byt h)))
  have h4 := decU_bd (restU_byt (restU_byt (restU_byt (restU_byt h))))
  unfold qS qT qK qX qN
  omega
/-- One reading of an entry with bounds. -/
def EntP (R : List Int) (b : Bool) (X : Ent) (b' : Bool) (R' : List Int) : Prop :=
  X.ok ∧ ((b = false ∧ b' = false ∧ X = eE R ∧ R' = rE R ∧ fE R = false) ∨ (b' = true ∧ (b = false → fE R = true ∨ 1099511627776 < (eE R).c)))
theorem EntP.of {R R1 R2 : List Int} {b b1 b2 : Bool} {x : ByteArray} {c : Int} (hy : Byt R) (h1 : TxtP R b x b1 R1) (h2 : NumP R1 1099511627776 b1 c b2 R2) : EntP R b ⟨x, c, 0⟩ b2 R2 := by
  have hk := eE_ok hy
  have z := Ent.z_ok
  rcases h1 with ⟨rfl, a1, rfl, rfl, rfl⟩ | ⟨a1, rfl, rfl, rfl⟩
  · have y1 := restT_byt hy
    rcases h2 with ⟨-, a2, rfl, rfl, rfl⟩ | ⟨a2, rfl, rfl, rfl⟩
    · have g2 := numG_yes a2
      exact ⟨hk, .inl ⟨rfl, rfl, rfl, rfl, by unfold fE; simp [a1, g2.1]⟩⟩
    · refine ⟨⟨hk.1, z.2.1, z.2.2⟩, .inr ⟨rfl, fun _ => ?_⟩⟩
      rcases a2 with h | h
      · cases h
      · rcases numG_no h with h | h
        · exact .inl (by unfold fE; simp [h])
        · exact .inr h
  · have hc : c = 0 ∧ b2 = true := by
      rcases h2 with ⟨h, _⟩ | ⟨_, h, h', _⟩
      · cases h
      · exact ⟨h, h'⟩
    obtain ⟨rfl, rfl⟩ := hc
    refine ⟨z, .inr ⟨rfl, fun hb => ?_⟩⟩
    rcases a1 with h | h
    · rw [hb] at h; cases h
    · exact .inl (by unfold fE; simp [h])
/-- What is wrong at an entry is wrong. -/
theorem okC_ent {L : List Int} {k : Nat} (hk : k < (qN L).toNat) (h : fE (rsE (qR L) k) = true ∨ 1099511627776 < (eE (rsE (qR L) k)).c) : ¬ OkC L := by
  rintro ⟨_, _, h3, _, h5⟩
  have hv := (valQ_ok h5).ent k (by rw [esE_len]; exact hk)
  rw [esE_at hk] at hv
  have he := entQ_zero hv
  rcases h with h | h
  · have : flE (qF L) (qR L) (k + 1) = true := by simp [flE, h]
    rw [flE_mono (Nat.succ_le_of_lt hk) this] at h3
    cases h3
  · omega
theorem okC_head {L : List Int} (h : qF L = true ∨ 32 < qS L ∨ 1099511627776 < qT L ∨ 1099511627776 < qK L ∨ 1 < qX L ∨ 32 < qN L) : ¬ OkC L := by
  rintro ⟨h1, h2, h3, _, h5⟩
  have hv := valQ_ok h5
  have a1 := hv.s1
  have a2 := hv.t1
  have a3 := hv.k1
  rcases h with h | h | h | h | h | h
  · have h0 : flE (qF L) (qR L) 0 = true := h
    rw [flE_mono (Nat.zero_le _) h0] at h3
    cases h3
  all_goals omega
/-- The head, read with bounds. -/
theorem headC {L R1 R2 R3 R4 R5 : List Int} {b1 b2 b3 b4 b5 : Bool} {s t q x n : Int} (hy : Byt L) (h1 : NumP L 32 false s b1 R1) (h2 : NumP R1 1099511627776 b1 t b2 R2) (h3 : NumP R2 1099511627776 b2 q b3 R3) (h4 : NumP R3 1 b3 x b4 R4) (h5 : NumP R4 32 b4 n b5 R5) :
    (b5 = false ∧ s = qS L ∧ t = qT L ∧ q = qK L ∧ x = qX L ∧ n = qN L ∧ R5 = qR L ∧ qF L = false ∧ qS L ≤ 32 ∧ qT L ≤ 1099511627776 ∧ qK L ≤ 1099511627776 ∧ qX L ≤ 1 ∧ qN L ≤ 32) ∨ (b5 = true ∧ n = 0 ∧ ¬ OkC L) := by
  have bad : ∀ {R R' : List Int} {M n : Int} {b : Bool}, NumP R M true n b R' → n = 0 ∧ b = true := fun h => by
    rcases h with ⟨h, _⟩ | ⟨_, h, h', _⟩
    · cases h
    · exact ⟨h, h'⟩
  rcases h1 with ⟨-, a1, rfl, rfl, rfl⟩ | ⟨a1, rfl, rfl, rfl⟩
  · have g1 := numG_yes a1
    rcases h2 with ⟨-, a2, rfl, rfl, rfl⟩ | ⟨a2, rfl, rfl, rfl⟩
    · have g2 := numG_yes a2
      rcases h3 with ⟨-, a3, rfl, rfl, rfl⟩ | ⟨a3, rfl, rfl, rfl⟩
      · have g3 := numG_yes a3
        rcases h4 with ⟨-, a4, rfl, rfl, rfl⟩ | ⟨a4, rfl, rfl, rfl⟩
        · have g4 := numG_yes a4
          rcases h5 with ⟨-, a5, rfl, rfl, rfl⟩ | ⟨a5, rfl, rfl, rfl⟩
          · have g5 := numG_yes a5
            exact .inl ⟨rfl, rfl, rfl, rfl, rfl, rfl, rfl, by unfold qF; simp [g1.1, g2.1, g3.1, g4.1, g5.1], g1.2, g2.2, g3.2, g4.2, g5.2⟩
          · refine .inr ⟨rfl, rfl, ?_⟩
            rcases a5 with h | h
            · cases h
            · rcases numG_no h with h | h
              · exact okC_head (.inl (by unfold qF; simp [h]))
              · exact okC_head (.inr (.inr (.inr (.inr (.inr h)))))
        · obtain ⟨rfl, rfl⟩ := bad h5
          refine .inr ⟨rfl, rfl, ?_⟩
          rcases a4 with h | h
          · cases h
          · rcases numG_no h with h | h
            · exact okC_head (.inl (by unfold qF; simp [h]))
            · exact okC_head (.inr (.inr (.inr (.inr (.inl h)))))
      · obtain ⟨rfl, rfl⟩ := bad h4
        obtain ⟨rfl, rfl⟩ := bad h5
        refine .inr ⟨rfl, rfl, ?_⟩
        rcases a3 with h | h
        · cases h
        · rcases numG_no h with h | h
          · exact okC_head (.inl (by unfold qF; simp [h]))
          · exact okC_head (.inr (.inr (.inr (.inl h))))
    · obtain ⟨rfl, rfl⟩ := bad h3
      obtain ⟨rfl, rfl⟩ := bad h4
      obtain ⟨rfl, rfl⟩ := bad h5
      refine .inr ⟨rfl, rfl, ?_⟩
      rcases a2 with h | h
      · cases h
      · rcases numG_no h with h | h
        · exact okC_head (.inl (by unfold qF; simp [h]))
        · exact okC_head (.inr (.inr (.inl h)))
  · obtain ⟨rfl, rfl⟩ := bad h2
    obtain ⟨rfl, rfl⟩ := bad h3
    obtain ⟨rfl, rfl⟩ := bad h4
    obtain ⟨rfl, rfl⟩ := bad h5
    refine .inr ⟨rfl, rfl, ?_⟩
    rcases a1 with h | h
    · cases h
    · rcases numG_no h with h | h
      · exact okC_head (.inl (by unfold qF; simp [h]))
      · exact okC_head (.inr (.inl h))
/-- What is encoded reads back. -/
theorem restU_app {n : Nat} (hn : n ≤ 4611686018427387904) (R : List Int) : restU (uintB n ++ R) = R := by
  unfold restU
  rw [decU_back hn R]
  simp
theorem restT_app {B : List Int} (hB : B.length ≤ 65536) (R : List Int) : restT (textB B ++ R) = R := by
  unfold restT
  rw [decT_back hB R]
  simp
theorem ent_app {x : Ent} (h : entQ x = 0) (R : List Int) : eE (entB x ++ R) = x ∧ rE (entB x ++ R) = R ∧ fE (entB x ++ R) = false := by
  obtain ⟨k, c, e⟩ := x
  have he := entQ_zero h
  have hk := keyB_len he.1
  dsimp only at he hk
  have e1 : entB ⟨k, c, e⟩ ++ R = textB (byt k) ++ (uintB c.toNat ++ R) := by simp [entB, List.append_assoc]
  have t1 := decT_back hk (uintB c.toNat ++ R)
  have t2 := restT_app hk (uintB c.toNat ++ R)
  have t3 := decU_back (n := c.toNat) (by omega) R
  have t4 := restU_app (n := c.toNat) (by omega) R
  obtain rfl : e = 0 := he.2.2.2
  rw [e1]
  refine ⟨?_, ?_, ?_⟩
  · unfold eE
    rw [t2, t1, t3]
    dsimp only
    rw [str_byt, Int.toNat_of_nonneg (by omega)]
  · unfold rE
    rw [t2, t4]
  · unfold fE
    rw [t2, t1, t3]
    rfl
theorem ents_app : ∀ {L : List Ent}, (∀ x ∈ L, entQ x = 0) → ∀ k, k ≤ L.length → ∀ F, rsE (entsB L) k = entsB (L.drop k) ∧ esE (entsB L) k = L.take k ∧ flE F (entsB L) k = F := by
  intro L h k
  induction k with
  | zero => exact fun _ _ => ⟨rfl, by simp [esE], rfl⟩
  | succ k ih =>
    intro hk F
    obtain ⟨i1, i2, i3⟩ := ih (by omega) F
    have hd : L.drop k = L[k] :: L.drop (k + 1) := List.drop_eq_getElem_cons (by omega)
    have hb : rsE (entsB L) k = entB L[k] ++ entsB (L.drop (k + 1)) := by rw [i1, hd]; unfold entsB; rw [List.flatMap_cons]
    obtain ⟨a1, a2, a3⟩ := ent_app (h L[k] (List.getElem_mem _)) (entsB (L.drop (k + 1)))
    refine ⟨?_, ?_, ?_⟩
    · show rE (rsE (entsB L) k) = _
      rw [hb, a2]
    · show esE (entsB L) k ++ [eE (rsE (entsB L) k)] = _
      rw [hb, a1, i2, List.take_succ_eq_append_getElem (by omega)]
    · show (flE F (entsB L) k || fE (rsE (entsB L) k)) = _
      rw [hb, a3, i3, Bool.or_false]
theorem decC_cod {S T K : Int} {L : List Ent} (s : Bool) (h : valQ S T K L = 0) : decC (codQ S T K L s) = ⟨S, T, K, L, s⟩ ∧ errC (codQ S T K L s) = 0 := by
  have hv := valQ_ok h
  have a0 := hv.s0
  have a1 := hv.s1
  have a2 := hv.t0
  have a3 := hv.t1
  have a4 := hv.small
  have a5 := hv.k0
  have a6 := hv.k1
  have hall : ∀ x ∈ L, entQ x = 0 := hv.gd
  have hfl : flagN s ≤ 1 := by unfold flagN; split <;> omega
  have hc : codQ S T K L s = uintB S.toNat ++ (uintB T.toNat ++ (uintB K.toNat ++ (uintB (flagN s) ++ (uintB L.length ++ entsB L)))) := by unfold codQ hdB; rw [if_pos h]; simp only [List.append_assoc]
  rw [hc]
  have r1 := restU_app (n := S.toNat) (by omega) (uintB T.toNat ++ (uintB K.toNat ++ (uintB (flagN s) ++ (uintB L.length ++ entsB L))))
  have r2 := restU_app (n := T.toNat) (by omega) (uintB K.toNat ++ (uintB (flagN s) ++ (uintB L.length ++ entsB L)))
  have r5 := restU_app (n := K.toNat) (by omega) (uintB (flagN s) ++ (uintB L.length ++ entsB L))
  have r3 := restU_app (n := flagN s) (by omega) (uintB L.length ++ entsB L)
  have r4 := restU_app (n := L.length) (by omega) (entsB L)
  have d1 := decU_back (n := S.toNat) (by omega) (uintB T.toNat ++ (uintB K.toNat ++ (uintB (flagN s) ++ (uintB L.length ++ entsB L))))
  have d2 := decU_back (n := T.toNat) (by omega) (uintB K.toNat ++ (uintB (flagN s) ++ (uintB L.length ++ entsB L)))
  have d5 := decU_back (n := K.toNat) (by omega) (uintB (flagN s) ++ (uintB L.length ++ entsB L))
  have d3 := decU_back (n := flagN s) (by omega) (uintB L.length ++ entsB L)
  have d4 := decU_back (n := L.length) (by omega) (entsB L)
  generalize hE : uintB S.toNat ++ (uintB T.toNat ++ (uintB K.toNat ++ (uintB (flagN s) ++ (uintB L.length ++ entsB L)))) = Z at *
  have k1 : qS Z = S := by unfold qS; rw [d1]; simp only; omega
  have k2 : qT Z = T := by unfold qT; rw [r1, d2]; simp only; omega
  have k7 : qK Z = K := by unfold qK; rw [r1, r2, d5]; simp only; omega
  have k3 : qX Z = (flagN s : Int) := by unfold qX; rw [r1, r2, r5, d3]
  have k4 : qN Z = (L.length : Int) := by unfold qN; rw [r1, r2, r5, r3, d4]
  have k5 : qR Z = entsB L := by unfold qR; rw [r1, r2, r5, r3, r4]
  have k6 : qF Z = false := by unfold qF; rw [r1, r2, r5, r3, d1, d2, d5, d3, d4]; rfl
  obtain ⟨e1, e2, e3⟩ := ents_app hall L.length (Nat.le_refl _) false
  have hok : OkC Z := by
    refine ⟨by rw [k3]; omega, by rw [k4]; omega, ?_, ?_, ?_⟩
    · rw [k4, k5, k6, Int.toNat_natCast]; exact e3
    · rw [k4, k5, Int.toNat_natCast, e1, List.drop_length]; rfl
    · rw [k1, k2, k7, k4, k5, Int.toNat_natCast, e2, List.take_length]; exact h
  obtain ⟨y1, y2⟩ := decC_yes hok
  rw [y1, y2, k1, k2, k7, k3, k4, k5, Int.toNat_natCast, e2, List.take_length]
  exact ⟨by cases s <;> rfl, rfl⟩
end Go.Proofs.Ytmmdnomfpfcjiaa
