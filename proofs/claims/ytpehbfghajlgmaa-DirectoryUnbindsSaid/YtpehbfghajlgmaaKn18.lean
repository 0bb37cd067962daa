/- The law's known. -/
import Derived.Test.YtpehbfghajlgmaaDgU
namespace Go.Proofs.Ytpehbfghajlgmaa
open Go.RowKit
set_option linter.unusedVariables false
set_option linter.unusedSimpArgs false
theorem opn_k1 : opnB [⟨⟨#[97]⟩, 1, 1, 0⟩] ⟨#[97]⟩ = some 0 := by decide
theorem opn_k2 : opnB [⟨⟨#[97]⟩, 1, 1, 0⟩] ⟨#[98]⟩ = none := by decide
theorem late_k : lateB [⟨⟨#[97]⟩, 1, 1, 0⟩] 2 = false := by decide
theorem lok_k1 : lokB [⟨⟨#[97]⟩, 1, 1, 2⟩, ⟨⟨#[98]⟩, 1, 2, 0⟩] ⟨#[97]⟩ 1 = some 0 := by decide
theorem lok_k2 : lokB [⟨⟨#[97]⟩, 1, 1, 2⟩, ⟨⟨#[98]⟩, 1, 2, 0⟩] ⟨#[97]⟩ 2 = none := by decide
theorem nm_k1 : nameB (byt ⟨#[97]⟩) = true := by decide
theorem nm_k2 : nameB (byt ⟨#[98]⟩) = true := by decide
theorem val_k0 : valB [] = 0 := valB_ok (fun q h => absurd h (by simp)) (fun ⟨i, k, _, h, _⟩ => absurd h (by simp))
theorem val_k1 : valB [⟨⟨#[97]⟩, 1, 1, 0⟩] = 0 := vld_ok ⟨fun x hx => by
  rw [List.mem_singleton] at hx
  subst hx
  exact ⟨nm_k1, by decide, by decide, by decide, .inl rfl⟩, List.pairwise_singleton _ _, List.pairwise_singleton _ _⟩
theorem bef_k : befB ⟨⟨#[97]⟩, 1, 1, 2⟩ ⟨⟨#[98]⟩, 1, 2, 0⟩ = true := by unfold befB lessK; rw [Lib.toList_data, Lib.toList_data]; decide
theorem kbind_any (w : World) : Calls Try.prog 9 #[.slice none 0 0, .string ⟨#[97]⟩, .int .i64 1, .int .i64 1] w fun e w' => ∃ v, e = .returned (.tuple #[v, .int .i64 0]) ∧ OwnBg w.heap.size [⟨⟨#[97]⟩, 1, 1, 0⟩] v w' ∧ Below w.heap.size w w' := by
  refine (pbind_ok [] (.slice none 0 0) ⟨#[97]⟩ 1 1 w (OwnBg.empty 0 w).rd (by simp) val_k0 (by decide) nm_k1 (by decide) (by decide) (by decide) (by decide) rfl rfl rfl).mono ?_
  rintro e w' ⟨v, p, rfl, ho, -, hb⟩
  exact ⟨v, rfl, by simpa using ho, hb⟩
theorem kren_any (u : Value) (w : World) (h : RdBg [⟨⟨#[97]⟩, 1, 1, 0⟩] u w) : Calls Try.prog 15 #[u, .string ⟨#[97]⟩, .string ⟨#[98]⟩, .int .i64 2] w fun e w' => ∃ v, e = .returned (.tuple #[v, .int .i64 0]) ∧ OwnBg w.heap.size [⟨⟨#[97]⟩, 1, 1, 2⟩, ⟨⟨#[98]⟩, 1, 2, 0⟩] v w' ∧ Below w.heap.size w w' := by
  refine (pren_ok [⟨⟨#[97]⟩, 1, 1, 0⟩] u ⟨#[97]⟩ ⟨#[98]⟩ 2 w h (by simp) val_k1 (by decide) (by decide) nm_k1 nm_k2 (by decide) late_k 0 opn_k1 (by simp) opn_k2 (by decide) (by decide)).mono ?_
  rintro e w' ⟨v, p, rfl, ho, hc, hb⟩
  have hp : p = 1 := by
    have h1 := hc.2.1
    simp at h1
    rcases Nat.lt_or_ge p 1 with h2 | h2
    · obtain rfl : p = 0 := by omega
      have h3 := hc.2.2.2 0 (Nat.le_refl _) (by simp)
      have h4 := bef_k
      simp [List.getD] at h3
      rw [h4] at h3
      cases h3
    · omega
  subst hp
  exact ⟨v, rfl, by simpa [List.getD] using ho, hb⟩
theorem klook1_any (u : Value) (w : World) (h : RdBg [⟨⟨#[97]⟩, 1, 1, 2⟩, ⟨⟨#[98]⟩, 1, 2, 0⟩] u w) : Calls Try.prog 19 #[u, .string ⟨#[97]⟩, .int .i64 1] w fun e w' => e = .returned (.tuple #[.int .i64 1, .bool true]) ∧ Below w.heap.size w w' := by
  have h1 := plook_any [⟨⟨#[97]⟩, 1, 1, 2⟩, ⟨⟨#[98]⟩, 1, 2, 0⟩] u ⟨#[97]⟩ 1 w h (by simp)
  unfold lokO at h1
  rw [lok_k1] at h1
  exact h1
theorem klook2_any (u : Value) (w : World) (h : RdBg [⟨⟨#[97]⟩, 1, 1, 2⟩, ⟨⟨#[98]⟩, 1, 2, 0⟩] u w) : Calls Try.prog 19 #[u, .string ⟨#[97]⟩, .int .i64 2] w fun e w' => e = .returned (.tuple #[.int .i64 0, .bool false]) ∧ Below w.heap.size w w' := by
  have h1 := plook_any [⟨⟨#[97]⟩, 1, 1, 2⟩, ⟨⟨#[98]⟩, 1, 2, 0⟩] u ⟨#[97]⟩ 2 w h (by simp)
  unfold lokO at h1
  rw [lok_k2] at h1
  exact h1
set_option maxRecDepth 100000 in
set_option maxHeartbeats 2000000 in
theorem known18_any (w : World) : Calls Try.prog 12 #[] w fun e w' => e = .returned (.bool true) ∧ Below w.heap.size w w' := by
  have hk := kbind_any w
  go_enter Try.func12, Try.ntmps12
  go_upto_region 3 with (first
    | (go_at_call 9; refine hk.mono ?_; rintro e w1 ⟨u1, rfl, ho, hb⟩; have HO := Lib.hid ho; have B1 := Lib.hid hb; clear ho hb)
    | (go_at_call 15; refine (kren_any _ _ HO.out.rd).mono ?_; rintro e w2 ⟨u2, rfl, ho, hb⟩; have HR := Lib.hid (fun (w' : World) (h : Below w2.heap.size w2 w') => ho.rd.below h); have B2 := Lib.hid (bgo B1.out hb); obtain ⟨ua, uc, hu⟩ := ho.rd.shape; have hu : u2 = .slice ua 2 uc := hu; subst hu; clear ho hb))
  obtain ⟨b, off, rfl, hbl, -, -, -, -⟩ := (HR.out _ (Below.refl _ _)).at_ (j := 0) (by simp)
  have HAT : Hid (∀ w', Below w2.heap.size w2 w' → w'.cell? ⟨b, off + 3, none⟩ = some (.int .i64 2) ∧ w'.cell? ⟨b, off + 4, none⟩ = some (.string ⟨#[98]⟩)) := Lib.hid (fun w' h => by
    obtain ⟨b1, off1, e1, -, -, -, -, c3⟩ := (HR.out _ h).at_ (j := 0) (by simp)
    obtain ⟨b2, off2, e2, -, d0, -, -, -⟩ := (HR.out _ h).at_ (j := 1) (by simp)
    simp only [Option.some.injEq, Addr.mk.injEq, and_true] at e1 e2
    obtain ⟨rfl, rfl⟩ := e1
    obtain ⟨rfl, rfl⟩ := e2
    exact ⟨by simpa [List.getD] using c3, by simpa [List.getD] using d0⟩)
  clear hk
  go_upto_region 5 with (first
    | (go_at_call 19; (with_reducible refine (klook1_any _ w2 (HR.out _ (Below.refl _ _))).mono ?_); rintro e w3 ⟨rfl, hb⟩; have B3 := Lib.hid (bgo B2.out hb); have G3 := Lib.hid hb; clear hb)
    | (go_at_call 19; (with_reducible refine (klook2_any _ w3 (HR.out _ G3.out)).mono ?_); rintro e w4 ⟨rfl, hb⟩; have B4 := Lib.hid (bgo B3.out hb); obtain ⟨c0, c1⟩ := HAT.out _ (bgo G3.out hb); clear hb))
  go_wp2
  go_ret
  exact ⟨rfl, B4.out⟩
end Go.Proofs.Ytpehbfghajlgmaa
