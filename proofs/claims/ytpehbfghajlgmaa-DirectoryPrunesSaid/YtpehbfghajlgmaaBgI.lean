/- The law's made answers a valid directory whose commits lie below the next one. -/
import Derived.Test.YtpehbfghajlgmaaBgZ
namespace Go.Proofs.Ytpehbfghajlgmaa
open Go.RowKit
set_option linter.unusedVariables false
set_option linter.unusedSimpArgs false
theorem bndE_zero {L : List Bg} {nm : ByteArray} {o c : Int} (h : bndE L nm o c = 0) : valB L = 0 ∧ nameB (byt nm) = true ∧ 1 ≤ o ∧ 1 ≤ c ∧ lateB L c = false ∧ busyB L nm o = false := by
  unfold bndE at h
  split at h
  · rename_i h1; exact absurd h h1
  · rename_i h1
    split at h
    · cases h
    · rename_i h2
      split at h
      · cases h
      · rename_i h3
        split at h
        · cases h
        · rename_i h4
          split at h
          · cases h
          · rename_i h5
            exact ⟨Classical.byContradiction h1, by simpa using h2, by omega, by omega, by simpa using h4, by simpa using h5⟩
theorem unbE_zero {L : List Bg} {nm : ByteArray} {c : Int} {i : Nat} (h : unbE L nm c = 0) (hi : opnB L nm = some i) : valB L = 0 ∧ 1 ≤ c ∧ lateB L c = false ∧ (L.getD i Bg.z).k < c := by
  unfold unbE at h
  rw [hi] at h
  split at h
  · rename_i h1; exact absurd h h1
  · rename_i h1
    split at h
    · cases h
    · split at h
      · cases h
      · rename_i h3
        split at h
        · cases h
        · rename_i h4
          dsimp only at h
          split at h
          · cases h
          · rename_i h5
            exact ⟨Classical.byContradiction h1, by omega, by simpa using h4, by omega⟩
theorem renE_zero {L : List Bg} {nm tn : ByteArray} {c : Int} {i : Nat} (h : renE L nm tn c = 0) (hi : opnB L nm = some i) : valB L = 0 ∧ nameB (byt tn) = true ∧ 1 ≤ c ∧ lateB L c = false ∧ opnB L tn = none ∧ (L.getD i Bg.z).k < c := by
  unfold renE at h
  rw [hi] at h
  split at h
  · rename_i h1; exact absurd h h1
  · rename_i h1
    split at h
    · cases h
    · split at h
      · cases h
      · rename_i h2
        split at h
        · cases h
        · rename_i h3
          split at h
          · cases h
          · rename_i h4
            dsimp only at h
            split at h
            · cases h
            · rename_i h6
              split at h
              · cases h
              · rename_i h5
                exact ⟨Classical.byContradiction h1, by simpa using h2, by omega, by simpa using h4, by simpa using h6, by omega⟩
theorem put_mem {L R : List Bg} {x : Bg} (h : PutB L x R) : ∀ y ∈ R, y = x ∨ y ∈ L := by
  obtain ⟨q, -, rfl⟩ := h
  intro y hy
  rcases List.mem_append.1 hy with hy | hy
  · exact .inr (List.mem_of_mem_take hy)
  · rcases List.mem_cons.1 hy with hy | hy
    · exact .inl hy
    · exact .inr (List.mem_of_mem_drop hy)
theorem keeps : Keeps KeptB where
  nil := ⟨⟨fun x h => (by cases h), .nil, .nil⟩, fun y h => (by cases h), by decide, by decide⟩
  bind := by
    intro L R c o nm hn ⟨h1, h2, h3, h4⟩ he hp
    obtain ⟨-, e1, e2, e3, e4, e5⟩ := bndE_zero he
    refine ⟨put_vld h1 (late_no e4) e1 e2 e3 (busy_no e5) hp, fun y hy => ?_, by omega, by omega⟩
    rcases put_mem hp y hy with rfl | hy
    · exact ⟨by show c < c + 1; omega, by show (0 : Int) < c + 1; omega, by show o < o + 1; omega⟩
    · have := h2 y hy
      omega
  more := by
    intro L c o ⟨h1, h2, h3, h4⟩
    exact ⟨h1, fun y hy => by have := h2 y hy; omega, h3, by omega⟩
  unbind := by
    intro L R c o nm hn ⟨h1, h2, h3, h4⟩ he hp
    obtain ⟨i, hi, rfl⟩ := hp
    obtain ⟨-, e1, e2, e3⟩ := unbE_zero he hi
    have hm := h2 _ (getD_mem (opn_lt hi))
    refine ⟨end_vld h1 (opn_lt hi) (opn_at hi).2 e3, fun y hy => ?_, by omega, h4⟩
    rcases List.mem_or_eq_of_mem_set hy with hy | rfl
    · have := h2 y hy
      omega
    · exact ⟨by show (L.getD i Bg.z).k < c + 1; omega, by show c < c + 1; omega, hm.2.2⟩
  rename := by
    intro L R c o nm tn hn ht ⟨h1, h2, h3, h4⟩ he hp
    obtain ⟨i, hi, hp⟩ := hp
    obtain ⟨-, e1, e2, e3, e4, e5⟩ := renE_zero he hi
    have hm := h2 _ (getD_mem (opn_lt hi))
    refine ⟨mov_vld h1 (late_no e3) e1 hi e4 e5 hp, fun y hy => ?_, by omega, h4⟩
    rcases put_mem hp y hy with rfl | hy
    · exact ⟨by show c < c + 1; omega, by show (0 : Int) < c + 1; omega, hm.2.2⟩
    · rcases List.mem_or_eq_of_mem_set hy with hy | rfl
      · have := h2 y hy
        omega
      · exact ⟨by show (L.getD i Bg.z).k < c + 1; omega, by show c < c + 1; omega, hm.2.2⟩
theorem prn_vld {P : List Pn} {L : List Bg} (h : VldB L) : VldB (prnB P L) := ⟨fun x hx => h.1 x (List.mem_filter.1 hx).1, h.2.1.sublist List.filter_sublist, h.2.2.sublist List.filter_sublist⟩
end Go.Proofs.Ytpehbfghajlgmaa
