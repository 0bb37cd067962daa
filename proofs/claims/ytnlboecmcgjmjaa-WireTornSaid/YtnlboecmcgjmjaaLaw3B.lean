/- The walk of the law WireBack. -/
import Derived.Test.YtnlboecmcgjmjaaLaw3
import Derived.Test.YtnlboecmcgjmjaaMask
namespace Go.Proofs.Ytnlboecmcgjmjaa
open Go.RowKit
set_option linter.unusedVariables false
set_option linter.unusedSimpArgs false
theorem k_text (s : ByteArray) (C : List Int) (w : World) (hs : s.size ≤ 65536) (hC : textB (byt s) = C) :
    Calls Try.prog 13 #[.string s] w fun e w' => ∃ v, e = .returned (.tuple #[v, .int .i64 0]) ∧ Own w.heap.size C v w' ∧ Below w.heap.size w w' := by
  have := encText_any s w (by unfold maxLen; omega)
  have e : textE (byt s) = 0 := by unfold textE; rw [byt_len, if_pos hs]
  rw [e, hC] at this
  exact this
theorem k_dec {L : List Int} {v : Value} {w : World} (h : Rd L v w) {n u e : Int} (hd : decU L = (n, u, e)) :
    Calls Try.prog 17 #[v] w fun r w' => r = .returned (.tuple #[.int .i64 n, .int .i64 u, .int .i64 e]) ∧ w = w' := by
  have := decUint_any L v w h
  rw [hd] at this
  exact this
theorem k_decT {L : List Int} {v : Value} {w : World} (h : Rd L v w) {s : ByteArray} {B : List Int} {u e : Int} (hd : decT L = (B, u, e)) (hs : strOfNums B = s) :
    Calls Try.prog 21 #[v] w fun r w' => r = .returned (.tuple #[.string s, .int .i64 u, .int .i64 e]) ∧ w = w' := by
  have := decText_any L v w h
  rw [hd] at this
  subst hs
  exact this
/-- An own slice with an element: where it lies; its heads can be read. -/
theorem Own.heads {B : Nat} {L : List Int} {a : Option Addr} {n cap : Nat} {w : World} (h : Own B L (.slice a n cap) w) (hp : 0 < L.length) :
    n = L.length ∧ n ≤ cap ∧ ∃ b off, a = some ⟨b, off, none⟩ ∧ ∀ k, k ≤ n → Rd (L.take k) (.slice (some ⟨b, off, none⟩) k cap) w := by
  have h0 := h.rd
  obtain ⟨_, a', cap', he, h1, h2, h3⟩ := h.rd
  simp only [Value.slice.injEq] at he
  obtain ⟨rfl, hn, rfl⟩ := he
  obtain ⟨b, off, rfl, _, _⟩ := h3 hp
  refine ⟨hn, by omega, b, off, rfl, fun k hk => ?_⟩
  have := h0.cut 0 k (by omega) (by omega) (some ⟨b, off, none⟩) (fun _ => rfl) (m := k) (c := cap) rfl rfl
  rwa [List.drop_zero] at this
set_option maxRecDepth 100000 in
set_option maxHeartbeats 2000000 in
theorem wireBack_walk (n : Int) (s : ByteArray) (a : Option Addr) (m cap : Nat) (z : List Int) (W : World) (w0 : (Lit.int .i64 n).wf = true) (w1 : s.size ≤ maxLen) (w2 : InRow .u8 W a m cap z) :
    Calls Try.prog 5 #[.int .i64 n, .string s, .slice a m cap] W fun e w' => e = .returned (.bool true) ∧ Below W.heap.size W w' := by
  have hn := wf_bd w0
  have hr := inRow_rd w2
  have hlz : (z.take m).length = m := by have := w2.1; have := w2.2.2.1; simp; omega
  have hm63 : m ≤ 9223372036854775807 := by have := w2.1; have := w2.2.1; unfold maxLen at this; omega
  unfold maxLen at w1
  by_cases hg : 300 < s.size ∨ 300 < m
  · by_cases hb1 : 300 < s.size
    all_goals
      clear hr w2 hlz w0
      go_enter Try.func5, Try.ntmps5
      go_wp2_with (go_at_call 10; refine (known_any _).mono ?_; rintro e w' ⟨rfl, hbl⟩)
      go_ret
      exact ⟨rfl, hbl⟩
  · have hs3 : s.size ≤ 300 := by omega
    have hm3 : m ≤ 300 := by omega
    have hmask := i64_mask 62 (by decide) n
    obtain ⟨N, hN⟩ : ∃ N : Nat, n % ((2 ^ 62 : Nat) : Int) = (N : Int) := ⟨(n % ((2 ^ 62 : Nat) : Int)).toNat, by omega⟩
    have hNb : N < 4611686018427387904 := by omega
    have hmask2 : bits .and .i64 n 4611686018427387903 = (N : Int) := by rw [← hN]; exact hmask
    have hE : encE (N : Int) = 0 := by unfold encE; rw [if_pos (by omega)]
    have hB : encB (N : Int) = uintB N := by unfold encB; rw [if_pos (by omega), Int.toNat_natCast]
    obtain ⟨lu1, lu9⟩ := uintB_len N (by omega)
    have hT1 : textB (byt s) = uintB s.size ++ byt s := by unfold textB; rw [byt_len, if_pos (by omega)]
    obtain ⟨ls1, ls9⟩ := uintB_len s.size (by omega)
    have hTl : 1 ≤ (textB (byt s)).length ∧ (textB (byt s)).length ≤ 400 := by rw [hT1, List.length_append, byt_len]; omega
    have h1 := fun ww => k_enc (N : Int) (uintB N) ww (by omega) (by omega) hE hB
    have h2 := fun ww => k_text s (textB (byt s)) ww (by omega) rfl
    have d1 := decU_back (n := N) (by omega) (z.take m)
    have d2 := fun k (hk : k < (uintB N).length) => decU_cut (n := N) (by omega) hk
    have d3 := decT_back (B := byt s) (by rw [byt_len]; omega) (z.take m)
    have d4 := fun k (hk : k < (textB (byt s)).length) => decT_cut (B := byt s) (by rw [byt_len]; omega) hk
    have hsb := str_byt s
    clear hmask hN hE hB hT1 ls1 ls9 hn w0 hg
    generalize uintB N = U at *
    generalize textB (byt s) = T at *
    generalize byt s = BS at *
    have D1 := Lib.hid d1
    have D2 := Lib.hid d2
    have D3 := Lib.hid d3
    have D4 := Lib.hid d4
    have HSB := Lib.hid hsb
    have HLZ := Lib.hid hlz
    have HR := Lib.hid hr
    clear d1 d2 d3 d4 hsb hlz w2 hr
    generalize z.take m = Z at *
    go_enter Try.func5, Try.ntmps5
    go_wp2_with (first
      | (go_at_call 11; refine (h1 _).mono ?_; rintro e x1 ⟨v1, rfl, o1, b1⟩)
      | (go_at_call 13; refine (h2 _).mono ?_; rintro e x2 ⟨v2, rfl, o2, b2⟩; have p1 := o1.below b2; have B2 := b1.trans (b2.mono b1.size); obtain ⟨a1, cap1, rfl⟩ := p1.shape; obtain ⟨a2, cap2, rfl⟩ := o2.shape; have P1 := Lib.hid p1; have O2 := Lib.hid o2; have HB2 := Lib.hid B2; clear p1 o1 o2 b1 b2 B2 h1 h2)
      | (at_builtin; refine wp_app rfl _ (.tmp 53) _ rfl x2.heap.size [] U _ _ rfl rfl (Own.empty _ _) P1.out.rd.src (Nat.le_refl _) ?_ ?_; (simp; omega); intro y1 x3 o3 b3; have O3 := Lib.hid o3; have B3 := Lib.hid b3; clear o3 b3)
      | (at_builtin; refine wp_app rfl (.tmp 54) (.tmp 55) _ rfl x2.heap.size U Z _ _ rfl rfl O3.out ((HR.out.below (HB2.out.trans (B3.out.mono HB2.out.size))).src) B3.out.size ?_ ?_; (have := HLZ.out; omega); intro y2 x4 o4 b4; have e4 := k_dec o4.rd D1.out; have B4 := Lib.hid (B3.out.trans b4); clear o4 b4)
      | (go_at_call 17; refine e4.mono ?_; rintro e w' ⟨rfl, rfl⟩; clear e4)
      | (at_builtin; refine wp_app rfl _ (.tmp 62) _ rfl x4.heap.size [] T _ _ rfl rfl (Own.empty _ _) ((O2.out.below B4.out).rd.src) (Nat.le_refl _) ?_ ?_; (simp; omega); intro y3 x5 o5 b5; have O5 := Lib.hid o5; have B5 := Lib.hid b5; have HW5 := Lib.hid (HB2.out.trans ((B4.out.trans (b5.mono B4.out.size)).mono HB2.out.size)); clear o5 b5)
      | (at_builtin; refine wp_app rfl (.tmp 63) (.tmp 64) _ rfl x4.heap.size T Z _ _ rfl rfl O5.out ((HR.out.below HW5.out).src) B5.out.size ?_ ?_; (have := HLZ.out; omega); intro y4 x6 o6 b6; have e6 := k_decT o6.rd D3.out HSB.out; have B6 : Below x2.heap.size x2 x6 := B4.out.trans ((B5.out.trans b6).mono B4.out.size); clear o6 b6)
      | (go_at_call 21; refine e6.mono ?_; rintro e w' ⟨rfl, rfl⟩; clear e6))
    go_loop [17, 18, 19, 20] (fun k _ _ _ => ∃ j : Nat, j ≤ U.length ∧ k = .int .i64 (j : Int)) (fun k _ _ _ => U.length - (intOf k).toNat)
    case atStart => exact ⟨0, by omega, rfl⟩
    case round =>
      obtain ⟨j, hj, rfl⟩ := hrel
      obtain ⟨-, hc1, b, off, rfl, hh⟩ := (P1.out.below B6).heads (by omega)
      by_cases hlt : j < U.length
      · have hk := k_dec (hh j hj) (D2.out j hlt)
        clear hh
        go_wp2_with (go_at_call 17; refine hk.mono ?_; rintro e w' ⟨rfl, rfl⟩)
        go_round
        case rel => exact ⟨j + 1, by omega, by go_num⟩
        case measure => simp [intOf] <;> omega
      · obtain rfl : j = U.length := by omega
        obtain ⟨-, hc2, b', off', rfl, hh2⟩ := (O2.out.below B6).heads (by omega)
        clear hh
        go_wp2
        go_loop [21, 22, 23, 24] (fun k _ _ _ => ∃ j : Nat, j ≤ T.length ∧ k = .int .i64 (j : Int)) (fun k _ _ _ => T.length - (intOf k).toNat)
        case atStart => exact ⟨0, by omega, rfl⟩
        case round =>
          obtain ⟨j, hj2, rfl⟩ := hrel
          by_cases hlt2 : j < T.length
          · have hk := k_decT (hh2 j hj2) (D4.out j hlt2) (rfl : strOfNums [] = _)
            clear hh2
            go_wp2_with (go_at_call 21; refine hk.mono ?_; rintro e w' ⟨rfl, rfl⟩)
            go_round
            case rel => exact ⟨j + 1, by omega, by go_num⟩
            case measure => simp [intOf] <;> omega
          · obtain rfl : j = T.length := by omega
            have B7 := HB2.out.trans (B6.mono HB2.out.size)
            clear hh2
            go_wp2_with (go_at_call 10; refine (known_any _).mono ?_; rintro e w' ⟨rfl, hbl⟩)
            go_ret
            exact ⟨rfl, B7.trans (hbl.mono B7.size)⟩
end Go.Proofs.Ytnlboecmcgjmjaa
