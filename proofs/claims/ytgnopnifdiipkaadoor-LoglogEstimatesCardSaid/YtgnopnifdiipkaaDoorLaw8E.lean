/- The walk of the law LoglogEstimates. -/
import Derived.Test.YtgnopnifdiipkaaDoorLPEst
import Derived.Test.YtgnopnifdiipkaaDoorLlPure
import Derived.Test.YtgnopnifdiipkaaDoorSpoil8
import Derived.Test.YtgnopnifdiipkaaDoorKnown8
import Derived.Test.YtgnopnifdiipkaaDoorSkL
namespace Go.Proofs.YtgnopnifdiipkaaDoor
open Go.RowKit
set_option linter.unusedVariables false
set_option linter.unusedSimpArgs false
theorem mask6 (n : Int) : bits .and .i64 n 63 = n % 64 := i64_mask 6 (by decide) n
/-- The sketch of the loop: its struct, its own registers. -/
def EsL (W : World) (B g b : Nat) (P x : Int) (N cap : Nat) (L : List Int) (w : World) : Prop :=
  Below W.heap.size W w ∧ LSt g P x (.slice (some ⟨b, 0, none⟩) N cap) w ∧ OwnI B L (.slice (some ⟨b, 0, none⟩) N cap) w ∧ L.length = N
theorem EsL.store {W : World} {B g b : Nat} {P x : Int} {N cap : Nat} {L : List Int} {w : World} (h : EsL W B g b P x N cap L w) (hN : 0 < N) (hB : W.heap.size ≤ B) (hb : B ≤ b) (hg : g ≠ b) (j : Nat) (c : Int) (hc : -9223372036854775808 ≤ c ∧ c ≤ 9223372036854775807) :
    EsL W B g b P x N cap (L.set j c) (w.setCell ⟨b, j, none⟩ (.int .i64 c)) := by
  obtain ⟨h1, h2, h3, h4⟩ := h
  obtain ⟨b', he, _, _, _, hst⟩ := h3.cells (by omega)
  obtain rfl : b = b' := by simpa using he
  exact ⟨bset h1 b j (.int .i64 c) (by omega), h2.far hg j (.int .i64 c), hst j c hc, by rw [List.length_set]; exact h4⟩
set_option maxRecDepth 100000 in
set_option maxHeartbeats 4000000 in
theorem loglogEstimates_walk (a s : Int) (al : Option Addr) (ln cap : Nat) (z : List Int) (n : Int) (big : Int) (W : World) (wa : (Lit.int .i64 a).wf = true) (ws : (Lit.int .i64 s).wf = true) (w0 : InRow .i64 W al ln cap z) (wn : (Lit.int .i64 n).wf = true) (wg : (Lit.int .i64 big).wf = true) (ht : TabF W) :
    Calls Tryd.prog 6 #[.int .i64 a, .int .i64 s, .slice al ln cap, .int .i64 n, .int .i64 big] W fun e w' => e = .returned (.bool true) ∧ Below W.heap.size W w' := by
  have HT := Lib.hid ht
  clear ht
  obtain ⟨s0, s1⟩ := wf_bd ws
  obtain ⟨n0, n1⟩ := wf_bd wn
  have hx := wrap_bd s
  have h1 := made_any a s (z.take ln) _ W s0 s1 (inRow_rdJ w0)
  have hm := Lib.hid (upL_ok a (IntKind.u64.wrap s) ((z.take ln).take 9) hx.1 hx.2)
  unfold madeL at h1
  generalize ldUp (newL (2 + a % 4) (IntKind.u64.wrap s)) ((z.take ln).take 9) = cm at *
  have h2 := fun (v : Value) (w : World) (hv : RdL cm v w) => spoil_any cm v n w hm.out.1 hv hm.out.2.1 hm.out.2.2.1 hm.out.2.2.2.1 hm.out.2.2.2.2 n0 n1
  have m1 := mask3 big
  have m2 := mask6 (big / 8)
  have e1 : 0 ≤ big % 8 ∧ big % 8 ≤ 7 := by omega
  have e2 : 0 ≤ big / 8 % 64 ∧ big / 8 % 64 ≤ 63 := by omega
  generalize big % 8 = p at *
  generalize big / 8 % 64 = y at *
  have hq : p.tmod 7 = p % 7 := Int.tmod_eq_emod_of_nonneg e1.1
  have e3 : 0 ≤ p % 7 ∧ p % 7 ≤ 6 := by omega
  generalize p % 7 = q at *
  have h3 := fun w => rlnew_any (2 + q) 0 w
  rw [newL_eq (show 2 ≤ 2 + q ∧ 2 + q ≤ 8 by omega)] at h3
  have hN := llN_bd (show 2 ≤ 2 + q ∧ 2 + q ≤ 8 by omega)
  generalize newLE (2 + q) = E0 at *
  generalize llN (2 + q) = N at *
  obtain ⟨e10, e11⟩ := e1
  obtain ⟨e20, e21⟩ := e2
  obtain ⟨e30, e31⟩ := e3
  obtain ⟨hN0, hN1⟩ := hN
  clear wa ws wn w0 wg hx
  go_enter Tryd.func6, Tryd.ntmps6
  go_wp2_with (first
    | (go_at_call 17; (with_reducible refine h1.mono ?_); rintro e w2 ⟨v2, rfl, hr2, hb2⟩; have O2 := Lib.hid hr2; have B2 := Lib.hid hb2; clear h1 hr2 hb2)
    | (go_at_call 16; (with_reducible refine (h2 _ _ O2.out).mono ?_); rintro e w3 ⟨c, v3, rfl, hwc, ⟨a3, n3, c3, rfl, ho3⟩, hb3⟩; have S3 := Lib.hid (SkL.new ho3 26); have B3 := Lib.hid (bal (bgo B2.out hb3) (.cells #[.int .i64 c.P, .int .u64 c.x, .slice a3 n3 c3] 26)); clear h2 hwc ho3 hb3 B2 O2 hm)
    | (go_at_call 25; (with_reducible refine (lest_any c _ _ S3.out.rd (HT.out.below B3.out)).mono ?_); rintro e w4 ⟨rfl, hb4⟩; have S4 := Lib.hid (S3.out.below hb4); have B4 := Lib.hid (bgo B3.out hb4); clear hb4 S3 B3; obtain ⟨⟨⟨p0, p1, p2⟩, -⟩, -⟩ := S4.out)
    | (go_at_call 26; (with_reducible refine (rlest_any c _ _ S4.out.rd).mono ?_); rintro e w5 ⟨rfl, hb5⟩; have B5 := Lib.hid (bgo B4.out hb5); clear hb5 S4 B4 p0 p1 p2)
    | (go_at_call 12; (with_reducible refine (h3 _).mono ?_); rintro e w6 ⟨v6, rfl, ⟨a6, n6, c6, rfl, ho6⟩, hb6⟩; have B6 := Lib.hid (bgo B5.out hb6); have O6 := Lib.hid ho6; have Y6 := Lib.hid hb6; clear h3 hb6 ho6))
  obtain ⟨b, rfl, hbB, hbs, -, -⟩ := O6.out.cells (by rw [List.length_replicate]; omega)
  have hn6 : n6 = N := by
    obtain ⟨a7, c7, he⟩ := O6.out.rd.shape
    simp only [Value.slice.injEq, List.length_replicate] at he
    exact he.2.1
  subst hn6
  have hWB := Lib.hid B5.out.size
  have HI := Lib.hid (show ∃ L', EsL W w5.heap.size w6.heap.size b (2 + q) 0 n6 c6 L' (w6.alloc (.cells #[.int .i64 (2 + q), .int .u64 0, .slice (some ⟨b, 0, none⟩) n6 c6] 26)) from ⟨List.replicate n6 0, bal B6.out _, LSt.new _ _ _ _ _, O6.out.alloc _, by rw [List.length_replicate]⟩)
  have hne1 : ¬ b = w6.heap.size := by omega
  have hne2 : ¬ w6.heap.size = b := by omega
  have hbB2 := Lib.hid hbB
  generalize llEst c = V at *
  generalize llE c.P c.L = E at *
  clear O6 Y6 B5 B6 hbs hbB
  go_loopw [18] (fun i wr => ∃ k : Nat, k ≤ n6 ∧ i = .int .i64 (k : Int) ∧ Hid (∃ L', EsL W w5.heap.size w6.heap.size b (2 + q) 0 n6 c6 L' wr)) (fun i _ => n6 - (intOf i).toNat)
  case atStart => exact ⟨0, by omega, rfl, HI⟩
  case round =>
    clear HI
    obtain ⟨k, hk, rfl, HI⟩ := hrel
    obtain ⟨L', hS⟩ := HI.out
    have HS := Lib.hid hS
    obtain ⟨hb, ⟨⟨p0, p1, p2⟩, -⟩, ho, hl⟩ := hS
    have hNI : (n6 : Int) ≤ 256 := by omega
    have hmn : -9223372036854775808 ≤ min y (65 - (2 + q)) ∧ min y (65 - (2 + q)) ≤ 9223372036854775807 := by omega
    by_cases hlt : k < n6
    · obtain ⟨b', he, _, hgs, hcell, _⟩ := ho.cells (by omega)
      obtain rfl : b = b' := by simpa using he
      obtain ⟨hc1, hc2⟩ := hcell k (by omega)
      have HX := Lib.hid (EsL.store HS.out (by omega) hWB.out hbB2.out hne2 k _ hmn)
      have hkI : (k : Int) < (n6 : Int) := by omega
      clear hcell he ho hb hmn hl
      go_wp2
      go_roundw
      case rel => exact ⟨k + 1, by omega, by go_num, Lib.hid ⟨_, HX.out⟩⟩
      case measure => simp [intOf]; omega
    · obtain rfl : k = n6 := by omega
      have f1 := fun (w : World) (hb' : Below wr.heap.size wr w) => lest_any ⟨2 + q, 0, L'⟩ _ w (RdL.of (ho.rd.below hb')) (HT.out.below (bgo hb hb'))
      have f2 := fun (w : World) (hb' : Below wr.heap.size wr w) => rlest_any ⟨2 + q, 0, L'⟩ _ w (RdL.of (ho.rd.below hb'))
      dsimp only at f1 f2
      generalize llEst ⟨2 + q, 0, L'⟩ = V2 at *
      generalize llE (2 + q) L' = E2 at *
      have T0 := Lib.hid HS.out.2.1
      have BW := Lib.hid hb
      clear ho hb hmn hl HS
      go_wp2_with (first
        | (go_at_call 25; (with_reducible refine (f1 _ (Below.refl _ _)).mono ?_); rintro e w7 ⟨rfl, hb7⟩; have T7 := Lib.hid (T0.out.below hb7 T0.out.size); have B7 := Lib.hid (bgo BW.out hb7); have Y7 := Lib.hid hb7; clear hb7 p0 p1 p2; obtain ⟨⟨p0, p1, p2⟩, -⟩ := T7.out)
        | (go_at_call 26; (with_reducible refine (f2 _ Y7.out).mono ?_); rintro e w8 ⟨rfl, hb8⟩; have B8 := Lib.hid (bgo B7.out hb8); clear hb8 p0 p1 p2)
        | (go_at_call 10; (with_reducible refine (known_any _ (HT.out.below B8.out)).mono ?_); rintro e wz ⟨rfl, hbz⟩; have BZ := Lib.hid (bgo B8.out hbz); clear hbz))
      go_ret
      exact ⟨rfl, BZ.out⟩
end Go.Proofs.YtgnopnifdiipkaaDoor
