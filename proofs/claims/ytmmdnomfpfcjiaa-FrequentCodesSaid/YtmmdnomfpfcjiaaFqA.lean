/- The contracts of frequent's adder.add, compareKey, lowered; of the reference's sum, lower, byKey. -/
import Derived.Test.YtmmdnomfpfcjiaaFqP
import Derived.Test.YtmmdnomfpfcjiaaRefSat
import Derived.Test.YtmmdnomfpfcjiaaRSrt
namespace Go.Proofs.Ytmmdnomfpfcjiaa
open Go.RowKit
set_option linter.unusedVariables false
set_option linter.unusedSimpArgs false
theorem psat_any (a b : Int) (w : World) (a0 : -9223372036854775808 ≤ a) (a1 : a ≤ 9223372036854775807) (b0 : -9223372036854775808 ≤ b) (b1 : b ≤ 9223372036854775807) :
    Calls Try.prog 69 #[.int .i64 a, .int .i64 b, .int .i64 1099511627776] w fun e w' => e = .returned (.tuple #[.int .i64 (tS a b), .bool (tF a b)]) ∧ w = w' := add_any a b 1099511627776 w a0 a1 b0 b1 (by decide) (by decide)
set_option maxRecDepth 100000 in
theorem rsumQ_any (a b : Int) (w : World) (a0 : -9223372036854775808 ≤ a) (a1 : a ≤ 9223372036854775807) (b0 : -9223372036854775808 ≤ b) (b1 : b ≤ 9223372036854775807) :
    Calls Try.prog 30 #[.int .i64 a, .int .i64 b] w fun e w' => e = .returned (.tuple #[.int .i64 (tS a b), .bool (tF a b)]) ∧ w = w' := by
  have h : ∀ w, Calls Try.prog 57 #[.int .i64 a, .int .i64 b, .int .i64 1099511627776] w fun e w' => e = .returned (.tuple #[.int .i64 (tS a b), .bool (tF a b)]) ∧ w = w' := fun w => ref_add_any a b 1099511627776 w a0 a1 b0 b1 (by decide) (by decide)
  generalize tS a b = A at *
  generalize tF a b = F at *
  go_enter Try.func30, Try.ntmps30
  go_wp2_with (go_at_call 57; refine (h _).mono ?_; rintro e w' ⟨rfl, rfl⟩)
  go_ret2
  exact ⟨rfl, rfl⟩
/-- A struct of one cell in memory: whether a sum was cut off. -/
def Fl (g : Nat) (s : Bool) (w : World) : Prop := w.cell? ⟨g, 0, none⟩ = some (.bool s) ∧ w.frozen? ⟨g, 0, none⟩ = false
theorem Fl.keep {g : Nat} {s : Bool} {w w' : World} (h : Fl g s w) (hb : w'.heap[g]? = w.heap[g]?) : Fl g s w' :=
  ⟨(World.cell?_of_block (w := w) (a := ⟨g, 0, none⟩) hb).trans h.1, (World.frozen?_of_block (w := w) (a := ⟨g, 0, none⟩) hb).trans h.2⟩
theorem Fl.lt {g : Nat} {s : Bool} {w : World} (h : Fl g s w) : g < w.heap.size := by
  have h0 := h.1
  unfold World.cell? at h0
  cases hb : w.heap[g]? with
  | none => simp [hb] at h0
  | some o => exact (Array.getElem?_eq_some_iff.1 hb).1
theorem Fl.set {g : Nat} {s : Bool} {w : World} (h : Fl g s w) (t : Bool) : Fl g t (w.setCell ⟨g, 0, none⟩ (.bool t)) := by
  obtain ⟨h0, f0⟩ := h
  exact ⟨by go_simp, by go_simp⟩
theorem Fl.bd {g : Nat} {r : Bool} {w w' : World} (h : Fl g r w) (hb : Below w.heap.size w w') : Fl g r w' := h.keep (hb.block _ h.lt)
/-- Of the blocks that there were, block g alone has turned. -/
def One (g : Nat) (w w' : World) : Prop := Below g w w' ∧ w.heap.size ≤ w'.heap.size ∧ ∀ b, b < w.heap.size → b ≠ g → w'.heap[b]? = w.heap[b]?
theorem One.refl (g : Nat) (w : World) : One g w w := ⟨Below.refl _ _, Nat.le_refl _, fun _ _ _ => rfl⟩
theorem One.trans {g : Nat} {w u v : World} (h : One g w u) (k : One g u v) : One g w v := ⟨h.1.trans k.1, Nat.le_trans h.2.1 k.2.1, fun b hb hn => (k.2.2 b (Nat.lt_of_lt_of_le hb h.2.1) hn).trans (h.2.2 b hb hn)⟩
theorem One.of {g : Nat} {w w' : World} (h : Below w.heap.size w w') (hg : g < w.heap.size) : One g w w' := ⟨h.mono (Nat.le_of_lt hg), h.size, fun b hb _ => h.block b hb⟩
theorem One.set (g o : Nat) (w : World) (v : Value) : One g w (w.setCell ⟨g, o, none⟩ v) := ⟨(Below.refl g w).setCell (p := ⟨g, o, none⟩) (Nat.le_refl _) v, by simp, fun b _ hn => Below.heap_setCell _ ⟨g, o, none⟩ _ _ hn⟩
theorem One.below {g B : Nat} {w w' : World} (h : One g w w') (hB : B ≤ g) : Below B w w' := h.1.mono hB
theorem At3.keep {x : Ent} {b o : Nat} {w w' : World} (h : At3 x b o w) (hb : w'.heap[b]? = w.heap[b]?) : At3 x b o w' :=
  ⟨(World.cell?_of_block (w := w) (a := ⟨b, o, none⟩) hb).trans h.1, (World.cell?_of_block (w := w) (a := ⟨b, o + 1, none⟩) hb).trans h.2.1, (World.cell?_of_block (w := w) (a := ⟨b, o + 2, none⟩) hb).trans h.2.2⟩
theorem At3.new (x : Ent) (w : World) : At3 x w.heap.size 0 (w.alloc (.cells #[.string x.k, .int .i64 x.c, .int .i64 x.e] 49)) := ⟨by go_simp, by go_simp, by go_simp⟩
theorem At3.lt {x : Ent} {b o : Nat} {w : World} (h : At3 x b o w) : b < w.heap.size := by
  have h0 := h.1
  unfold World.cell? at h0
  cases hb : w.heap[b]? with
  | none => simp [hb] at h0
  | some o => exact (Array.getElem?_eq_some_iff.1 hb).1
theorem At3.go {x : Ent} {b o : Nat} {w w' : World} (h : At3 x b o w) (hb : Below w.heap.size w w') : At3 x b o w' := h.below hb h.lt
theorem At3.zero {x : Ent} {b : Nat} {w : World} (h : At3 x b 0 w) : w.cell? ⟨b, 0, none⟩ = some (.string x.k) ∧ w.cell? ⟨b, 1, none⟩ = some (.int .i64 x.c) ∧ w.cell? ⟨b, 2, none⟩ = some (.int .i64 x.e) := h
set_option maxRecDepth 100000 in
theorem addQ_any (a b : Int) (g : Nat) (s : Bool) (w : World) (a0 : -9223372036854775808 ≤ a) (a1 : a ≤ 9223372036854775807) (b0 : -9223372036854775808 ≤ b) (b1 : b ≤ 9223372036854775807) (hc : w.cell? ⟨g, 0, none⟩ = some (.bool s)) (hf : w.frozen? ⟨g, 0, none⟩ = false) :
    Calls Try.prog 55 #[.pointer (some ⟨g, 0, none⟩), .int .i64 a, .int .i64 b] w fun e w' => e = .returned (.int .i64 (tS a b)) ∧ w' = w.setCell ⟨g, 0, none⟩ (.bool (s || tF a b)) := by
  have h := fun w => psat_any a b w a0 a1 b0 b1
  generalize tS a b = A at *
  generalize tF a b = F at *
  cases s
  all_goals
    go_enter Try.func55, Try.ntmps55
    go_wp2_with (go_at_call 69; refine (h _).mono ?_; rintro e w' ⟨rfl, rfl⟩)
    go_ret
    exact ⟨rfl, rfl⟩
theorem addQ_one (a b : Int) (g : Nat) (s : Bool) (w : World) (a0 : -9223372036854775808 ≤ a) (a1 : a ≤ 9223372036854775807) (b0 : -9223372036854775808 ≤ b) (b1 : b ≤ 9223372036854775807) (hf : Fl g s w) :
    Calls Try.prog 55 #[.pointer (some ⟨g, 0, none⟩), .int .i64 a, .int .i64 b] w fun e w' => e = .returned (.int .i64 (tS a b)) ∧ Fl g (s || tF a b) w' ∧ One g w w' := by
  refine (addQ_any a b g s w a0 a1 b0 b1 hf.1 hf.2).mono ?_
  rintro e w' ⟨rfl, rfl⟩
  exact ⟨rfl, hf.set _, One.set _ _ _ _⟩
set_option maxRecDepth 100000 in
theorem cmpKey_any (x : Ent) (k : ByteArray) (w : World) :
    Calls Try.prog 52 #[.agg #[.string x.k, .int .i64 x.c, .int .i64 x.e], .string k] w fun e w' => e = .returned (.int .i64 (cmpK x.k k)) ∧ Below w.heap.size w w' := by
  have h := fun w => scmp_any x.k k w
  unfold cmpK
  generalize Lib.compareBytes x.k.data.toList k.data.toList = r at *
  go_enter Try.func52, Try.ntmps52
  go_wp2_with (go_at_call 66; refine (h _).mono ?_; rintro e w' ⟨rfl, rfl⟩)
  go_ret
  exact ⟨rfl, b1 _⟩
/-- What may be appended: an entry of which the block comes behind another. -/
theorem from_two {k : ByteArray} {c e : Int} (hx : (⟨k, c, e⟩ : Ent).ok) (w : World) (o : Obj) : FromE [⟨k, c, e⟩] 23 (.slice (some ⟨w.heap.size + 1, 0, none⟩) 1 1) ((w.alloc o).alloc (.cells #[.string k, .int .i64 c, .int .i64 e] 49)) := by
  have h := (OwnE.one hx (w.alloc o)).rd.src
  have e1 : (w.alloc o).heap.size = w.heap.size + 1 := by simp
  rw [e1] at h
  exact h
/-- The state of a loop that appends: entries of the call's own. -/
def LoS (W : World) (M : List Ent) (v : Value) (w : World) : Prop := OwnE W.heap.size M v w ∧ Below W.heap.size W w
theorem LoS.go {W : World} {M : List Ent} {v : Value} {w w' : World} (h : LoS W M v w) (hb : Below w.heap.size w w') : LoS W M v w' := ⟨h.1.below hb, bgo h.2 hb⟩
set_option maxRecDepth 100000 in
set_option maxHeartbeats 1000000 in
theorem lowQ_any (L : List Ent) (d : Int) (v : Value) (w : World) (hv : RdE L v w) (hn : L.length ≤ 549755813888) (d0 : 0 ≤ d) :
    Calls Try.prog 56 #[v, .int .i64 d] w fun e w' => ∃ u, e = .returned u ∧ OwnE w.heap.size (lowL L d) u w' ∧ Below w.heap.size w w' := by
  have HR := Lib.hid hv
  obtain ⟨a, cap, rfl⟩ := hv.shape
  have hE := hv.1
  clear hv
  go_enter Try.func56, Try.ntmps56
  go_wp2
  go_loopw [5, 7, 10] (fun o _ i wr => ∃ k : Nat, k ≤ L.length ∧ i = .int .i64 (k : Int) ∧ Hid (LoS w (lowL (L.take k) d) o wr)) (fun _ _ i _ => L.length - (intOf i).toNat)
  case atStart => exact ⟨0, by omega, rfl, Lib.hid ⟨OwnE.empty _ _, Below.refl _ _⟩⟩
  case round =>
    obtain ⟨k, hk, rfl, HI⟩ := hrel
    by_cases hlt : k < L.length
    · have hlt2 : (k : Int) < (L.length : Int) := by omega
      obtain ⟨-, a1, cap1, he1, -, -, hc1⟩ := HR.out.below HI.out.2
      simp only [Value.slice.injEq, true_and] at he1
      obtain ⟨rfl, rfl⟩ := he1
      obtain ⟨b, off, rfl, hb, hcell⟩ := hc1 (by omega)
      obtain ⟨c0, c1, c2⟩ := hcell k hlt
      have hx := hE.at_ k
      have HZ := Lib.hid (lowL_succ hlt d)
      have HL := Lib.hid (Nat.le_trans (lowL_len (L.take k) d) (by rw [List.length_take]; omega : (L.take k).length ≤ k))
      clear hcell hc1
      generalize L.getD k Ent.z = X at *
      by_cases hd : d < X.c
      · obtain ⟨xk, ⟨xc0, xc1⟩, xe0, xe1⟩ := hx
        have q1 : IntKind.i64.wrap (X.c - d) = X.c - d := by rw [IntKind.wrap_i64]; omega
        have q2 : wrap64 (X.c - d) = X.c - d := by unfold wrap64; omega
        have HO := Lib.hid (HI.out.1.alloc (.cells #[.string X.k, .int .i64 X.c, .int .i64 X.e] 49))
        have HB := Lib.hid (bal HI.out.2 (.cells #[.string X.k, .int .i64 X.c, .int .i64 X.e] 49))
        have hz := HZ.out
        rw [if_pos hd] at hz
        have HZ2 := Lib.hid hz
        have HY : Hid ((⟨X.k, X.c - d, 0⟩ : Ent).ok) := Lib.hid ⟨xk, by dsimp only; omega, by dsimp only; omega⟩
        have HO2 := Lib.hid (HO.out.alloc (.cells #[.string X.k, .int .i64 (X.c - d), .int .i64 0] 49))
        have HS := Lib.hid (from_two HY.out wr (.cells #[.string X.k, .int .i64 X.c, .int .i64 X.e] 49))
        clear hz
        go_wp2_with (at_builtin; refine wp_appE rfl _ _ _ rfl w.heap.size (lowL (L.take k) d) [⟨X.k, X.c - d, 0⟩] _ _ rfl rfl HO2.out HS.out ?s1 ?s2 ?_)
        case s1 => exact (bal HB.out _).size
        case s2 => have := HL.out; simp; omega
        intro v1 w1 ho1 hb1
        have H1 : Hid (LoS w (lowL (L.take (k + 1)) d) v1 w1) := Lib.hid ⟨by rw [HZ2.out]; exact ho1, (bal HB.out _).trans hb1⟩
        clear ho1 hb1
        go_wp2
        exact ⟨⟨k + 1, by omega, by go_num, H1⟩, by simp [intOf]; omega⟩
      · have hz := HZ.out
        rw [if_neg hd, List.append_nil] at hz
        have H1 := Lib.hid (HI.out.go (b1 (.cells #[.string X.k, .int .i64 X.c, .int .i64 X.e] 49)))
        rw [← hz] at H1
        clear hz HI
        go_wp2
        exact ⟨⟨k + 1, by omega, by go_num, H1⟩, by simp [intOf]; omega⟩
    · obtain rfl : k = L.length := by omega
      go_wp2
      go_ret
      exact ⟨_, rfl, by have := HI.out.1; rwa [List.take_length] at this, HI.out.2⟩
end Go.Proofs.Ytmmdnomfpfcjiaa
