/- The walk of the law PagesLists. -/
import Derived.Test.YtbppdbfjhdhehaaKn14
import Derived.Test.YtbppdbfjhdhehaaArgsB
import Derived.Deep.RegionHeld
namespace Go.Proofs.Ytbppdbfjhdhehaa
open Go.RowKit
set_option linter.unusedVariables false
set_option linter.unusedSimpArgs false
theorem flat_take {Z : List (List Int)} {k : Nat} (h : k < Z.length) : (Z.take (k + 1)).flatten.length = (Z.take k).flatten.length + (Z.getD k []).length := by
  rw [List.take_succ_eq_append_getElem h, List.flatten_append, List.length_append]
  simp [List.getD, h]
theorem flat_le {Z : List (List Int)} (h : ∀ L ∈ Z, L.length ≤ 140737488351232) : Z.flatten.length ≤ Z.length * 140737488351232 := by
  induction Z with
  | nil => simp
  | cons L Z ih =>
    have h1 := h L (by simp)
    have h2 := ih (fun M hM => h M (by simp [hM]))
    simp only [List.flatten_cons, List.length_append, List.length_cons, Nat.succ_mul]
    omega
set_option maxRecDepth 100000 in
set_option maxHeartbeats 1000000 in
theorem pagesLists_walk (a : Option Addr) (n cap : Nat) (Z : List (List Int)) (W : World) (w0 : InRows W a n cap Z) :
    Calls Try.prog 5 #[.slice a n cap] W fun e w' => e = .returned (.bool true) ∧ Below W.heap.size W w' := by
  obtain ⟨rfl, h, hb⟩ := w0
  have H := Lib.hid h
  have HLT := Lib.hid (fun k (hk : k < Z.length) => flat_take (Z := Z) hk)
  have HLE := Lib.hid (flat_le hb)
  have HBD := Lib.hid hb
  have hl : (Z.length : Int) ≤ 9223372036854775807 := by
    obtain ⟨us, ⟨_, a', cap', he, g1, g2, _⟩, g3, _⟩ := h
    unfold maxLen at g2
    omega
  clear h hb
  by_cases hn : 50 < Z.length
  · have hn2 : (50 : Int) < (Z.length : Int) := by omega
    go_enter Try.func5, Try.ntmps5
    go_wp2
    go_loop [3, 4] (fun x i => ∃ (k : Nat) (y : Int), k ≤ Z.length ∧ i = .int .i64 (k : Int) ∧ x = .int .i64 y) (fun _ i => Z.length - (intOf i).toNat)
    case atStart => exact ⟨0, 0, by omega, rfl, rfl⟩
    case round =>
      obtain ⟨k, y, hk, rfl, rfl⟩ := hrel
      by_cases hlt : k < Z.length
      · obtain ⟨b, off, u, m, c, rfl, -, hb, hc, hr, hm⟩ := H.out.at_ hlt
        have hki : (k : Int) < (Z.length : Int) := by omega
        clear hr hm
        go_wp2
        go_round
        case rel => exact ⟨k + 1, _, by omega, by go_num, rfl⟩
        case measure => simp [intOf]; omega
      · obtain rfl : k = Z.length := by omega
        go_wp2_with (go_at_call 7; refine (known14_any _).mono ?_; rintro e w' ⟨rfl, hb⟩)
        go_ret
        exact ⟨rfl, hb⟩
  · have hn2 : (Z.length : Int) ≤ 50 := by omega
    have HB := Lib.hid (show ∀ k, k ≤ Z.length → (Z.take k).flatten.length ≤ 7036874417561600 by
      intro k hk
      have := flat_le (Z := Z.take k) (fun L hL => HBD.out L (List.mem_of_mem_take hL))
      rw [List.length_take, Nat.min_eq_left hk] at this
      omega)
    go_enter Try.func5, Try.ntmps5
    go_wp2
    go_loop [3, 4] (fun x i => ∃ (k q : Nat), k ≤ Z.length ∧ i = .int .i64 (k : Int) ∧ Hid ((Z.take k).flatten.length = q) ∧ x = .int .i64 (q : Int)) (fun _ i => Z.length - (intOf i).toNat)
    case atStart => exact ⟨0, 0, by omega, rfl, Lib.hid (by simp), rfl⟩
    case round =>
      obtain ⟨k, q, hk, rfl, HQ, rfl⟩ := hrel
      by_cases hlt : k < Z.length
      · obtain ⟨b, off, u, m, c, rfl, -, hb, hc, hr, hm⟩ := H.out.at_ hlt
        have hki : (k : Int) < (Z.length : Int) := by omega
        have hq1 : q + m ≤ 7036874417561600 := by
          have h1 := HLT.out k hlt
          have h2 := HB.out (k + 1) (by omega)
          have h3 := HQ.out
          omega
        have HQ2 := Lib.hid (show (Z.take (k + 1)).flatten.length = q + m by rw [HLT.out k hlt, HQ.out, hm])
        clear hr hm
        go_wp2
        go_round
        case rel => exact ⟨k + 1, q + m, by omega, by go_num, HQ2, by go_num⟩
        case measure => simp [intOf]; omega
      · obtain rfl : k = Z.length := by omega
        have hq : Z.flatten.length = q := by have := HQ.out; rwa [List.take_length] at this
        by_cases hq2 : 2000 < q
        · have hq3 : (2000 : Int) < (q : Int) := by omega
          clear hq
          go_wp2_with (go_at_call 7; refine (known14_any _).mono ?_; rintro e w' ⟨rfl, hb⟩)
          go_ret
          exact ⟨rfl, hb⟩
        · have hq3 : (q : Int) ≤ 2000 := by omega
          have h1 := fun (w : World) (hb : Below W.heap.size W w) => pjoin_any Z _ w (H.out.below hb) (by omega) (by omega)
          have h2 := fun (w : World) (hb : Below W.heap.size W w) => rjoin_any Z _ w (H.out.below hb) (by omega)
          clear HLT HLE HBD HB HQ hk hq2
          generalize Z.flatten = P at *
          subst hq
          go_wp2
          go_region_held (fun w' => Below W.heap.size W w') (first | assumption | exact (Below.refl _ _).drew) (first
            | (go_at_call 13; first
              | (refine (h1 _ S2).mono ?_; rintro e x3 ⟨v3, rfl, o3, b3⟩; have S3 : Below W.heap.size W x3 := S2.trans (b3.mono S2.size); obtain ⟨a3, c3, rfl⟩ := rd_shape o3; have d1'' := ((o1.below b2).below b3).conv; have d2' := (o2.below b3).conv)
              | (refine (h1 _ (Below.refl _ W).drew).mono ?_; rintro e x1 ⟨v1, rfl, o1, b1⟩; have S1 : Below W.heap.size W x1 := (Below.refl _ W).drew.trans b1; have d1 := o1.conv))
            | (go_at_call 14; refine (h2 _ S1).mono ?_; rintro e x2 ⟨v2, rfl, o2, b2⟩; have S2 : Below W.heap.size W x2 := S1.trans (b2.mono S1.size); have d2 := o2.conv; have d1' := (o1.below b2).conv)
            | (go_at_call 7; refine (known14_any _).mono ?_; rintro e x4 ⟨rfl, b4⟩; have S4 : Below W.heap.size W x4 := S3.trans (b4.mono S3.size)))
          all_goals go_wp2
          all_goals go_ret
          all_goals exact ⟨rfl, S4⟩
end Go.Proofs.Ytbppdbfjhdhehaa
