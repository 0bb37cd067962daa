/- What a walk is told of a slice of slices of bytes that came in. -/
import Derived.Test.YtbppdbfjhdhehaaPgR
import Derived.Test.YtbppdbfjhdhehaaRdIn
import Derived.Deep.Matrix
import Derived.SizedLaws
namespace Go.Proofs.Ytbppdbfjhdhehaa
open Go.RowKit Go.ChangeShapes Go.WideShapes
set_option linter.unusedVariables false
set_option linter.unusedSimpArgs false
theorem weightsAll_mem {H : Type} {P : Program} {e : TypeId} : ∀ {ds : List (DataW H)} {d : DataW H}, d ∈ ds → ∀ n ∈ d.weights P e, n ∈ DataW.weightsAll P e ds
  | d0 :: ds, d, hd, n, hn => by
    simp only [DataW.weightsAll, List.mem_append]
    rcases List.mem_cons.1 hd with rfl | hd
    · exact .inl hn
    · exact .inr (weightsAll_mem hd n hn)
theorem bytes_u8 : Try.prog.bytesOf 5 = 1 := by kernel_rfl
/-- Lists of bytes that came in: they can be read, and each is within the form's reach. -/
def InRows (w : World) (a : Option Addr) (len cap : Nat) (Z : List (List Int)) : Prop := Z.length = len ∧ RdPs Z (.slice a len cap) w ∧ ∀ L ∈ Z, L.length ≤ 140737488351232
theorem inRows_of {H : Type} {enc : TypeId × Value → H} {w : World} {fuel : Nat} {x : DataW H × List MemPlace} {a : Option Addr} {len cap : Nat}
    (h : DataW.trod enc Try.prog w 0 (fun _ => true) true fuel 24 [.slice a len cap] = some x) (hsz : ∀ n ∈ x.1.weights Try.prog 24, n ≤ reachBytes) : ∃ Z, InRows w a len cap Z := by
  rcases Deep.open_int_rows Try.underlying24 Try.underlying22 Try.underlying5 (by kernel_rfl) (by kernel_rfl) h with ⟨hcs, _⟩ | ⟨y, l, c, A, L, C, Z, hcs, -, hl, hm, hx, hr⟩
  · simp only [List.cons.injEq, Value.slice.injEq, and_true] at hcs
    obtain ⟨rfl, rfl, rfl⟩ := hcs
    exact ⟨[], rfl, ⟨[], (OwnP.empty 0 w).rd, rfl, fun j hj => by cases hj⟩, fun L hL => by cases hL⟩
  · simp only [List.cons.injEq, Value.slice.injEq, and_true] at hcs
    obtain ⟨rfl, rfl, rfl⟩ := hcs
    refine ⟨(List.range len).map fun r => (Z r).take (L r), by simp, ⟨(List.range len).map fun r => .slice (A r) (L r) (C r), ?_, by simp, fun j hj => ?_⟩, fun M hM => ?_⟩
    · refine ⟨fun u hu => ?_, some y, cap, by simp, by simpa using hl, hm, fun hp => ?_⟩
      · obtain ⟨r, _, rfl⟩ := List.mem_map.1 hu
        rfl
      · have hp' : 0 < len := by simpa using hp
        obtain ⟨b, off, spot⟩ := y
        have h0 := (hr 0 (by omega)).1
        have hspot : spot = none := by simpa [Addr.add] using World.cell?_spot h0
        subst hspot
        have hx : ∀ j, j < cap → w.cell? ⟨b, off + j, none⟩ = some (.slice (A j) (L j) (C j)) := fun j hj => by rw [← Go.WideShapes.add_plain]; exact (hr j hj).1
        refine ⟨b, off, rfl, block_lt_of_cell (hx 0 (by omega)), fun j hj => ?_⟩
        have hj' : j < len := by simpa using hj
        rw [hx j (by omega)]
        simp [List.getD, hj']
    · have hj' : j < len := by simpa using hj
      obtain ⟨-, r1, r2, r3, r4, r5, r6⟩ := hr j (by omega)
      have e1 : ((List.range len).map fun r => (Z r).take (L r)).getD j [] = (Z j).take (L j) := by simp [List.getD, hj']
      have e2 : ((List.range len).map fun r => Value.slice (A r) (L r) (C r)).getD j nilP = .slice (A j) (L j) (C j) := by simp [List.getD, hj']
      rw [e1, e2]
      have hlen : ((Z j).take (L j)).length = L j := by rw [List.length_take]; omega
      refine ⟨fun n hn => wf_bd8 (r4 n (List.mem_of_mem_take hn)), A j, C j, by rw [hlen], by rw [hlen]; exact r1, r2, fun hp => ?_⟩
      rw [hlen] at hp
      cases hA : A j with
      | none => have := r5 hA; omega
      | some a' =>
        obtain ⟨-, hc⟩ := r6 a' hA
        obtain ⟨b, off, spot⟩ := a'
        have hspot : spot = none := by simpa [Addr.add] using World.cell?_spot (hc 0 (by omega))
        subst hspot
        have hx : ∀ i, i < C j → w.cell? ⟨b, off + i, none⟩ = some (.int .u8 ((Z j).getD i 0)) := fun i hi => by rw [← Go.WideShapes.add_plain]; exact hc i hi
        refine ⟨b, off, rfl, block_lt_of_cell (hx 0 (by omega)), fun i hi => ?_⟩
        rw [hlen] at hi
        rw [hx i (by omega)]
        simp [List.getD, List.getElem?_take, hi]
    · obtain ⟨r, hrm, rfl⟩ := List.mem_map.1 hM
      have hr' : r < len := List.mem_range.1 hrm
      obtain ⟨-, r1, r2, r3, r4, r5, r6⟩ := hr r (by omega)
      have hlen : ((Z r).take (L r)).length ≤ C r := by rw [List.length_take]; omega
      refine Nat.le_trans hlen ?_
      cases hA : A r with
      | none => have := r5 hA; omega
      | some a' =>
        have hw : C r ∈ x.1.weights Try.prog 24 := by
          rw [hx]
          simp only [DataW.weights, Try.underlying24, List.mem_cons, List.mem_append]
          refine .inr (.inl (weightsAll_mem (List.mem_map.2 ⟨r, hrm, rfl⟩) _ ?_))
          simp only [Deep.intRow, hA, DataW.weights, Try.underlying22, List.mem_cons, bytes_u8]
          refine .inl ?_
          simp [lits]
          omega
        exact hsz _ hw
end Go.Proofs.Ytbppdbfjhdhehaa
