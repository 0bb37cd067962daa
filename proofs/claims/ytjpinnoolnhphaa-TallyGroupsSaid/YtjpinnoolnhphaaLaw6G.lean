/- The walk of the law TallyGroups. -/
import Derived.Test.YtjpinnoolnhphaaMade6
import Derived.Test.YtjpinnoolnhphaaMerT
namespace Go.Proofs.Ytjpinnoolnhphaa
open Go.RowKit
set_option linter.unusedVariables false
set_option linter.unusedSimpArgs false
theorem rooms {a b n m : Nat} (h : n < m) (ha : a < n) (hb : b < n) : a < m ∧ b < m := by omega
set_option maxRecDepth 100000 in
set_option maxHeartbeats 4000000 in
theorem tallyGroups_walk (a b c : Int) (W : World) (wa : (Lit.int .i64 a).wf = true) (wb : (Lit.int .i64 b).wf = true) (wc : (Lit.int .i64 c).wf = true) :
    Calls Try.prog 7 #[.int .i64 a, .int .i64 b, .int .i64 c] W fun e w' => e = .returned (.bool true) ∧ Below W.heap.size W w' := by
  have h1 := fun w => made_any a (a / 128) w (wf_bd wa).1 (wf_bd wa).2 (by have := wf_bd wa; omega) (by have := wf_bd wa; omega)
  have h2 := fun w => made_any b (b / 512) w (wf_bd wb).1 (wf_bd wb).2 (by have := wf_bd wb; omega) (by have := wf_bd wb; omega)
  have h3 := fun w => made_any c (c / 32) w (wf_bd wc).1 (wf_bd wc).2 (by have := wf_bd wc; omega) (by have := wf_bd wc; omega)
  obtain ⟨a0, a1⟩ := wf_bd wa
  obtain ⟨b0, b1⟩ := wf_bd wb
  obtain ⟨c0, c1⟩ := wf_bd wc
  clear wa wb wc
  go_enter Try.func7, Try.ntmps7
  go_wp2_with fail
  go_at_call 8
  refine (h1 _).mono ?_
  rintro e w2 ⟨T, I, s, ⟨T0, T1⟩, ⟨I0, I1⟩, rfl, B2⟩
  clear h1
  go_wp2_with fail
  go_at_call 8
  refine (h2 _).mono ?_
  rintro e w3 ⟨U, J, r, ⟨U0, U1⟩, ⟨J0, J1⟩, rfl, b3⟩
  have B3 := bgo B2 b3
  clear h2 B2 b3
  go_wp2_with fail
  go_at_call 8
  refine (h3 _).mono ?_
  rintro e w4 ⟨V, K, t, ⟨V0, V1⟩, ⟨K0, K1⟩, rfl, b4⟩
  have B4 := bgo B3 b4
  clear h3 B3 b4
  have hp := fun w => tmer_any T I U J s r w T0 T1 I0 I1 U0 U1 J0 J1
  have hr := fun w => tmer_any U J V K r t w U0 U1 J0 J1 V0 V1 K0 K1
  obtain ⟨⟨P0, P1⟩, P2, P3⟩ := mer_bd T I U J s r
  obtain ⟨⟨R0, R1⟩, R2, R3⟩ := mer_bd U J V K r t
  have hq := fun w => tmer_any (merT T I s U J r).1 (merT T I s U J r).2.1 V K (merT T I s U J r).2.2.1 t w P0 P1 P2 P3 V0 V1 K0 K1
  have hs := fun w => tmer_any T I (merT U J r V K t).1 (merT U J r V K t).2.1 s (merT U J r V K t).2.2.1 w T0 T1 I0 I1 R0 R1 R2 R3
  have hv1 := fun w => tval_any T I s w T0 T1 I0 I1
  have hv2 := fun w => tval_any U J r w U0 U1 J0 J1
  have hv3 := fun w => tval_any V K t w V0 V1 K0 K1
  have hall := fun h1 h2 h3 => mer_assoc (T := T) (I := I) (U := U) (J := J) (V := V) (K := K) (s := s) (r := r) (t := t) h1 h2 h3
  generalize merT (merT T I s U J r).1 (merT T I s U J r).2.1 (merT T I s U J r).2.2.1 V K t = q at *
  generalize merT T I s (merT U J r V K t).1 (merT U J r V K t).2.1 (merT U J r V K t).2.2.1 = z at *
  generalize merT T I s U J r = p at *
  generalize merT U J r V K t = u at *
  obtain ⟨p1, p2, p3, p4⟩ := p
  obtain ⟨q1, q2, q3, q4⟩ := q
  obtain ⟨u1, u2, u3, u4⟩ := u
  obtain ⟨z1, z2, z3, z4⟩ := z
  generalize valT T I = E1 at *
  generalize valT U J = E2 at *
  generalize valT V K = E3 at *
  dsimp only at hp hr hq hs hall P0 P1 P2 P3 R0 R1 R2 R3
  clear P0 P1 P2 P3 R0 R1 R2 R3
  by_cases g1 : E1 = 0
  · by_cases g2 : E2 = 0
    · by_cases g3 : E3 = 0
      · obtain ⟨rfl, rfl, rfl, hqz⟩ := hall g1 g2 g3
        cases hqz
        subst g1 g2 g3
        clear hall
        go_wp2_with (first
              | (go_at_call 15; first
                | ((with_reducible refine (hp _).mono ?_); rintro e w5 ⟨rfl, hb5⟩; have B5 := bgo (bal (bal (bal B4 _) _) _) hb5; obtain ⟨hc5, hf5⟩ := bcell hb5; obtain ⟨hx5, hy5, hz5⟩ := room (n := w4.heap.size) (m := w5.heap.size) (by have := hb5.size; simp at this; omega); clear hb5 B4 hp)
                | ((with_reducible refine (hq _).mono ?_); rintro e w6 ⟨rfl, hb6⟩; have B6 := bgo (bal B5 _) hb6; obtain ⟨hc6, hf6⟩ := bcell hb6; have ha6 : w5.heap.size < w6.heap.size := (by have := hb6.size; simp at this; omega); obtain ⟨hx6, hy6, hz6⟩ := room (n := w4.heap.size) (m := w6.heap.size) (by omega); clear hb6 B5 hq)
                | ((with_reducible refine (hr _).mono ?_); rintro e w7 ⟨rfl, hb7⟩; have B7 := bgo (bal B6 _) hb7; obtain ⟨hc7, hf7⟩ := bcell hb7; have ha7 : w6.heap.size < w7.heap.size := (by have := hb7.size; simp at this; omega); obtain ⟨hx7, hy7, hz7⟩ := room (n := w4.heap.size) (m := w7.heap.size) (by omega); clear hb7 B6 hr)
                | ((with_reducible refine (hs _).mono ?_); rintro e w8 ⟨rfl, hb8⟩; have B8 := bgo (bal B7 _) hb8; obtain ⟨hc8, hf8⟩ := bcell hb8; have hd8 : w7.heap.size < w8.heap.size := (by have := hb8.size; simp at this; omega); have ha8 : w6.heap.size < w8.heap.size := (by omega); obtain ⟨hx8, hy8, hz8⟩ := room (n := w4.heap.size) (m := w8.heap.size) (by omega); clear hb8 B7 hs))
              | (go_at_call 12; first
                | ((with_reducible refine (hv1 _).mono ?_); rintro e w9 ⟨rfl, hb9⟩; have B9 := bgo (bal B8 _) hb9; obtain ⟨hc9, hf9⟩ := bcell hb9; have hd9 : w8.heap.size < w9.heap.size := (by have := hb9.size; simp at this; omega); have ha9 : w6.heap.size < w9.heap.size := (by omega); obtain ⟨hx9, hy9, hz9⟩ := room (n := w4.heap.size) (m := w9.heap.size) (by omega); clear hb9 B8 hv1)
                | ((with_reducible refine (hv2 _).mono ?_); rintro e wA ⟨rfl, hbA⟩; have BA := bgo B9 hbA; obtain ⟨hcA, hfA⟩ := bcell hbA; have hdA : w8.heap.size < wA.heap.size := (by have := hbA.size; omega); have haA : w6.heap.size < wA.heap.size := (by omega); obtain ⟨hxA, hyA, hzA⟩ := room (n := w4.heap.size) (m := wA.heap.size) (by omega); clear hbA hv2)
                | ((with_reducible refine (hv3 _).mono ?_); rintro e wB ⟨rfl, hbB⟩; have BB := bgo BA hbB; obtain ⟨hcB, hfB⟩ := bcell hbB; have hdB : w8.heap.size < wB.heap.size := (by have := hbB.size; omega); have haB : w6.heap.size < wB.heap.size := (by omega); clear hbB hv3))
              | (go_at_call 14; ((with_reducible refine (known_any _).mono ?_); rintro e wC ⟨rfl, hbC⟩; have BC := bgo BB hbC; clear hbC)))
        go_ret
        exact ⟨rfl, BC⟩
      · have g3' : (E3 != 0) = true := by simp [g3]
        subst g1 g2
        clear hall g3
        go_wp2_with (first
              | (go_at_call 15; first
                | ((with_reducible refine (hp _).mono ?_); rintro e w5 ⟨rfl, hb5⟩; have B5 := bgo (bal (bal (bal B4 _) _) _) hb5; obtain ⟨hc5, hf5⟩ := bcell hb5; obtain ⟨hx5, hy5, hz5⟩ := room (n := w4.heap.size) (m := w5.heap.size) (by have := hb5.size; simp at this; omega); clear hb5 B4 hp)
                | ((with_reducible refine (hq _).mono ?_); rintro e w6 ⟨rfl, hb6⟩; have B6 := bgo (bal B5 _) hb6; obtain ⟨hc6, hf6⟩ := bcell hb6; have ha6 : w5.heap.size < w6.heap.size := (by have := hb6.size; simp at this; omega); obtain ⟨hx6, hy6, hz6⟩ := room (n := w4.heap.size) (m := w6.heap.size) (by omega); clear hb6 B5 hq)
                | ((with_reducible refine (hr _).mono ?_); rintro e w7 ⟨rfl, hb7⟩; have B7 := bgo (bal B6 _) hb7; obtain ⟨hc7, hf7⟩ := bcell hb7; have ha7 : w6.heap.size < w7.heap.size := (by have := hb7.size; simp at this; omega); obtain ⟨hx7, hy7, hz7⟩ := room (n := w4.heap.size) (m := w7.heap.size) (by omega); clear hb7 B6 hr)
                | ((with_reducible refine (hs _).mono ?_); rintro e w8 ⟨rfl, hb8⟩; have B8 := bgo (bal B7 _) hb8; obtain ⟨hc8, hf8⟩ := bcell hb8; have hd8 : w7.heap.size < w8.heap.size := (by have := hb8.size; simp at this; omega); have ha8 : w6.heap.size < w8.heap.size := (by omega); obtain ⟨hx8, hy8, hz8⟩ := room (n := w4.heap.size) (m := w8.heap.size) (by omega); clear hb8 B7 hs))
              | (go_at_call 12; first
                | ((with_reducible refine (hv1 _).mono ?_); rintro e w9 ⟨rfl, hb9⟩; have B9 := bgo (bal B8 _) hb9; obtain ⟨hc9, hf9⟩ := bcell hb9; have hd9 : w8.heap.size < w9.heap.size := (by have := hb9.size; simp at this; omega); have ha9 : w6.heap.size < w9.heap.size := (by omega); obtain ⟨hx9, hy9, hz9⟩ := room (n := w4.heap.size) (m := w9.heap.size) (by omega); clear hb9 B8 hv1)
                | ((with_reducible refine (hv2 _).mono ?_); rintro e wA ⟨rfl, hbA⟩; have BA := bgo B9 hbA; obtain ⟨hcA, hfA⟩ := bcell hbA; have hdA : w8.heap.size < wA.heap.size := (by have := hbA.size; omega); have haA : w6.heap.size < wA.heap.size := (by omega); obtain ⟨hxA, hyA, hzA⟩ := room (n := w4.heap.size) (m := wA.heap.size) (by omega); clear hbA hv2)
                | ((with_reducible refine (hv3 _).mono ?_); rintro e wB ⟨rfl, hbB⟩; have BB := bgo BA hbB; obtain ⟨hcB, hfB⟩ := bcell hbB; have hdB : w8.heap.size < wB.heap.size := (by have := hbB.size; omega); have haB : w6.heap.size < wB.heap.size := (by omega); clear hbB hv3))
              | (go_at_call 14; ((with_reducible refine (known_any _).mono ?_); rintro e wC ⟨rfl, hbC⟩; have BC := bgo BB hbC; clear hbC)))
        go_ret
        exact ⟨rfl, BC⟩
    · have g2' : (E2 != 0) = true := by simp [g2]
      subst g1
      clear hall g2
      go_wp2_with (first
            | (go_at_call 15; first
              | ((with_reducible refine (hp _).mono ?_); rintro e w5 ⟨rfl, hb5⟩; have B5 := bgo (bal (bal (bal B4 _) _) _) hb5; obtain ⟨hc5, hf5⟩ := bcell hb5; obtain ⟨hx5, hy5, hz5⟩ := room (n := w4.heap.size) (m := w5.heap.size) (by have := hb5.size; simp at this; omega); clear hb5 B4 hp)
              | ((with_reducible refine (hq _).mono ?_); rintro e w6 ⟨rfl, hb6⟩; have B6 := bgo (bal B5 _) hb6; obtain ⟨hc6, hf6⟩ := bcell hb6; have ha6 : w5.heap.size < w6.heap.size := (by have := hb6.size; simp at this; omega); obtain ⟨hx6, hy6, hz6⟩ := room (n := w4.heap.size) (m := w6.heap.size) (by omega); clear hb6 B5 hq)
              | ((with_reducible refine (hr _).mono ?_); rintro e w7 ⟨rfl, hb7⟩; have B7 := bgo (bal B6 _) hb7; obtain ⟨hc7, hf7⟩ := bcell hb7; have ha7 : w6.heap.size < w7.heap.size := (by have := hb7.size; simp at this; omega); obtain ⟨hx7, hy7, hz7⟩ := room (n := w4.heap.size) (m := w7.heap.size) (by omega); clear hb7 B6 hr)
              | ((with_reducible refine (hs _).mono ?_); rintro e w8 ⟨rfl, hb8⟩; have B8 := bgo (bal B7 _) hb8; obtain ⟨hc8, hf8⟩ := bcell hb8; have hd8 : w7.heap.size < w8.heap.size := (by have := hb8.size; simp at this; omega); have ha8 : w6.heap.size < w8.heap.size := (by omega); obtain ⟨hx8, hy8, hz8⟩ := room (n := w4.heap.size) (m := w8.heap.size) (by omega); clear hb8 B7 hs))
            | (go_at_call 12; first
              | ((with_reducible refine (hv1 _).mono ?_); rintro e w9 ⟨rfl, hb9⟩; have B9 := bgo (bal B8 _) hb9; obtain ⟨hc9, hf9⟩ := bcell hb9; have hd9 : w8.heap.size < w9.heap.size := (by have := hb9.size; simp at this; omega); have ha9 : w6.heap.size < w9.heap.size := (by omega); obtain ⟨hx9, hy9, hz9⟩ := room (n := w4.heap.size) (m := w9.heap.size) (by omega); clear hb9 B8 hv1)
              | ((with_reducible refine (hv2 _).mono ?_); rintro e wA ⟨rfl, hbA⟩; have BA := bgo B9 hbA; obtain ⟨hcA, hfA⟩ := bcell hbA; have hdA : w8.heap.size < wA.heap.size := (by have := hbA.size; omega); have haA : w6.heap.size < wA.heap.size := (by omega); obtain ⟨hxA, hyA, hzA⟩ := room (n := w4.heap.size) (m := wA.heap.size) (by omega); clear hbA hv2)
              | ((with_reducible refine (hv3 _).mono ?_); rintro e wB ⟨rfl, hbB⟩; have BB := bgo BA hbB; obtain ⟨hcB, hfB⟩ := bcell hbB; have hdB : w8.heap.size < wB.heap.size := (by have := hbB.size; omega); have haB : w6.heap.size < wB.heap.size := (by omega); clear hbB hv3))
            | (go_at_call 14; ((with_reducible refine (known_any _).mono ?_); rintro e wC ⟨rfl, hbC⟩; have BC := bgo BA hbC; clear hbC)))
      go_ret
      exact ⟨rfl, BC⟩
  · have g1' : (E1 != 0) = true := by simp [g1]
    clear hall g1
    go_wp2_with (first
          | (go_at_call 15; first
            | ((with_reducible refine (hp _).mono ?_); rintro e w5 ⟨rfl, hb5⟩; have B5 := bgo (bal (bal (bal B4 _) _) _) hb5; obtain ⟨hc5, hf5⟩ := bcell hb5; obtain ⟨hx5, hy5, hz5⟩ := room (n := w4.heap.size) (m := w5.heap.size) (by have := hb5.size; simp at this; omega); clear hb5 B4 hp)
            | ((with_reducible refine (hq _).mono ?_); rintro e w6 ⟨rfl, hb6⟩; have B6 := bgo (bal B5 _) hb6; obtain ⟨hc6, hf6⟩ := bcell hb6; have ha6 : w5.heap.size < w6.heap.size := (by have := hb6.size; simp at this; omega); obtain ⟨hx6, hy6, hz6⟩ := room (n := w4.heap.size) (m := w6.heap.size) (by omega); clear hb6 B5 hq)
            | ((with_reducible refine (hr _).mono ?_); rintro e w7 ⟨rfl, hb7⟩; have B7 := bgo (bal B6 _) hb7; obtain ⟨hc7, hf7⟩ := bcell hb7; have ha7 : w6.heap.size < w7.heap.size := (by have := hb7.size; simp at this; omega); obtain ⟨hx7, hy7, hz7⟩ := room (n := w4.heap.size) (m := w7.heap.size) (by omega); clear hb7 B6 hr)
            | ((with_reducible refine (hs _).mono ?_); rintro e w8 ⟨rfl, hb8⟩; have B8 := bgo (bal B7 _) hb8; obtain ⟨hc8, hf8⟩ := bcell hb8; have hd8 : w7.heap.size < w8.heap.size := (by have := hb8.size; simp at this; omega); have ha8 : w6.heap.size < w8.heap.size := (by omega); obtain ⟨hx8, hy8, hz8⟩ := room (n := w4.heap.size) (m := w8.heap.size) (by omega); clear hb8 B7 hs))
          | (go_at_call 12; first
            | ((with_reducible refine (hv1 _).mono ?_); rintro e w9 ⟨rfl, hb9⟩; have B9 := bgo (bal B8 _) hb9; obtain ⟨hc9, hf9⟩ := bcell hb9; have hd9 : w8.heap.size < w9.heap.size := (by have := hb9.size; simp at this; omega); have ha9 : w6.heap.size < w9.heap.size := (by omega); obtain ⟨hx9, hy9, hz9⟩ := room (n := w4.heap.size) (m := w9.heap.size) (by omega); clear hb9 B8 hv1)
            | ((with_reducible refine (hv2 _).mono ?_); rintro e wA ⟨rfl, hbA⟩; have BA := bgo B9 hbA; obtain ⟨hcA, hfA⟩ := bcell hbA; have hdA : w8.heap.size < wA.heap.size := (by have := hbA.size; omega); have haA : w6.heap.size < wA.heap.size := (by omega); obtain ⟨hxA, hyA, hzA⟩ := room (n := w4.heap.size) (m := wA.heap.size) (by omega); clear hbA hv2)
            | ((with_reducible refine (hv3 _).mono ?_); rintro e wB ⟨rfl, hbB⟩; have BB := bgo BA hbB; obtain ⟨hcB, hfB⟩ := bcell hbB; have hdB : w8.heap.size < wB.heap.size := (by have := hbB.size; omega); have haB : w6.heap.size < wB.heap.size := (by omega); clear hbB hv3))
          | (go_at_call 14; ((with_reducible refine (known_any _).mono ?_); rintro e wC ⟨rfl, hbC⟩; have BC := bgo B9 hbC; clear hbC)))
    go_ret
    exact ⟨rfl, BC⟩
end Go.Proofs.Ytjpinnoolnhphaa
