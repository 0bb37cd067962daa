/- The walk of the law LoglogUnion. -/
import Derived.Test.YtgnopnifdiipkaaDoorLPMer
import Derived.Test.YtgnopnifdiipkaaDoorLPIns
import Derived.Test.YtgnopnifdiipkaaDoorLlPure
import Derived.Test.YtgnopnifdiipkaaDoorMade8
import Derived.Test.YtgnopnifdiipkaaDoorKnown8
import Derived.Test.YtgnopnifdiipkaaDoorSameL
import Derived.Test.YtgnopnifdiipkaaDoorSkL
import Derived.Deep.RegionHeld3
namespace Go.Proofs.YtgnopnifdiipkaaDoor
open Go.RowKit
set_option linter.unusedVariables false
set_option linter.unusedSimpArgs false
/-- The sketch of a loop, in its struct. -/
def StU (W : World) (g : Nat) (c : LL) (w : World) : Prop :=
  Below g W w ∧ g < w.heap.size ∧ ∃ a n cap, LSt g c.P c.x (.slice a n cap) w ∧ OffI g c.L (.slice a n cap) w
theorem StU.step {W : World} {g : Nat} {d : LL} {w : World} (B : Below g W w) (z : g < w.heap.size) {P x : Int} {v : Value} (C : LSt g P x v w) {a : Option Addr} {n cap : Nat} (O : OffI g d.L (.slice a n cap) w) :
    StU W g d (((w.setCell ⟨g, 0, none⟩ (.int .i64 d.P)).setCell ⟨g, 1, none⟩ (.int .u64 d.x)).setCell ⟨g, 2, none⟩ (.slice a n cap)) := by
  have ho := Oth.set3 g w (.int .i64 d.P) (.int .u64 d.x) (.slice a n cap)
  exact ⟨B.trans ho.1, Nat.lt_of_lt_of_le z ho.1.size, a, n, cap, C.set3 _ _ _ _ _, O.oth ho⟩
/-- Three sketches in structs, and a copy of the first. -/
theorem start4 {c1 c2 c3 : LL} {a2 a3 a4 : Option Addr} {n2 n3 n4 k2 k3 k4 : Nat} {w : World} (h1 : RdI c1.L (.slice a2 n2 k2) w) (h2 : RdI c2.L (.slice a3 n3 k3) w) (h3 : RdI c3.L (.slice a4 n4 k4) w) :
    (SkL w.heap.size c1 (.slice a2 n2 k2) ((((w.alloc (.cells #[.int .i64 c1.P, .int .u64 c1.x, .slice a2 n2 k2] 26)).alloc (.cells #[.int .i64 c2.P, .int .u64 c2.x, .slice a3 n3 k3] 26)).alloc (.cells #[.int .i64 c3.P, .int .u64 c3.x, .slice a4 n4 k4] 26)).alloc (.cells #[.int .i64 c1.P, .int .u64 c1.x, .slice a2 n2 k2] 26)) ∧ SkL (w.heap.size + 1) c2 (.slice a3 n3 k3) ((((w.alloc (.cells #[.int .i64 c1.P, .int .u64 c1.x, .slice a2 n2 k2] 26)).alloc (.cells #[.int .i64 c2.P, .int .u64 c2.x, .slice a3 n3 k3] 26)).alloc (.cells #[.int .i64 c3.P, .int .u64 c3.x, .slice a4 n4 k4] 26)).alloc (.cells #[.int .i64 c1.P, .int .u64 c1.x, .slice a2 n2 k2] 26)) ∧ SkL (w.heap.size + 1 + 1) c3 (.slice a4 n4 k4) ((((w.alloc (.cells #[.int .i64 c1.P, .int .u64 c1.x, .slice a2 n2 k2] 26)).alloc (.cells #[.int .i64 c2.P, .int .u64 c2.x, .slice a3 n3 k3] 26)).alloc (.cells #[.int .i64 c3.P, .int .u64 c3.x, .slice a4 n4 k4] 26)).alloc (.cells #[.int .i64 c1.P, .int .u64 c1.x, .slice a2 n2 k2] 26))) ∧
    StU ((((w.alloc (.cells #[.int .i64 c1.P, .int .u64 c1.x, .slice a2 n2 k2] 26)).alloc (.cells #[.int .i64 c2.P, .int .u64 c2.x, .slice a3 n3 k3] 26)).alloc (.cells #[.int .i64 c3.P, .int .u64 c3.x, .slice a4 n4 k4] 26)).alloc (.cells #[.int .i64 c1.P, .int .u64 c1.x, .slice a2 n2 k2] 26)) (w.heap.size + 1 + 1 + 1) c1 ((((w.alloc (.cells #[.int .i64 c1.P, .int .u64 c1.x, .slice a2 n2 k2] 26)).alloc (.cells #[.int .i64 c2.P, .int .u64 c2.x, .slice a3 n3 k3] 26)).alloc (.cells #[.int .i64 c3.P, .int .u64 c3.x, .slice a4 n4 k4] 26)).alloc (.cells #[.int .i64 c1.P, .int .u64 c1.x, .slice a2 n2 k2] 26)) ∧ Below w.heap.size w ((((w.alloc (.cells #[.int .i64 c1.P, .int .u64 c1.x, .slice a2 n2 k2] 26)).alloc (.cells #[.int .i64 c2.P, .int .u64 c2.x, .slice a3 n3 k3] 26)).alloc (.cells #[.int .i64 c3.P, .int .u64 c3.x, .slice a4 n4 k4] 26)).alloc (.cells #[.int .i64 c1.P, .int .u64 c1.x, .slice a2 n2 k2] 26)) := by
  have hz : ∀ (w : World) o, (w.alloc o).heap.size = w.heap.size + 1 := fun w o => by simp
  have B := bal (b3 (a := w) (.cells #[.int .i64 c1.P, .int .u64 c1.x, .slice a2 n2 k2] 26) (.cells #[.int .i64 c2.P, .int .u64 c2.x, .slice a3 n3 k3] 26) (.cells #[.int .i64 c3.P, .int .u64 c3.x, .slice a4 n4 k4] 26)) (.cells #[.int .i64 c1.P, .int .u64 c1.x, .slice a2 n2 k2] 26)
  refine ⟨⟨(((SkL.new h1 26).alloc (.cells #[.int .i64 c2.P, .int .u64 c2.x, .slice a3 n3 k3] 26)).alloc (.cells #[.int .i64 c3.P, .int .u64 c3.x, .slice a4 n4 k4] 26)).alloc (.cells #[.int .i64 c1.P, .int .u64 c1.x, .slice a2 n2 k2] 26), ?_, ?_⟩, ⟨Below.refl _ _, by simp only [hz]; omega, a2, n2, k2, ?_, ?_⟩, B⟩
  · have h := ((SkL.new (h2.below (b1 (.cells #[.int .i64 c1.P, .int .u64 c1.x, .slice a2 n2 k2] 26))) 26).alloc (.cells #[.int .i64 c3.P, .int .u64 c3.x, .slice a4 n4 k4] 26)).alloc (.cells #[.int .i64 c1.P, .int .u64 c1.x, .slice a2 n2 k2] 26)
    rwa [hz] at h
  · have h := (SkL.new ((h3.below (b1 (.cells #[.int .i64 c1.P, .int .u64 c1.x, .slice a2 n2 k2] 26))).below (b1 (.cells #[.int .i64 c2.P, .int .u64 c2.x, .slice a3 n3 k3] 26))) 26).alloc (.cells #[.int .i64 c1.P, .int .u64 c1.x, .slice a2 n2 k2] 26)
    rwa [hz, hz] at h
  · have h := LSt.new c1.P c1.x (.slice a2 n2 k2) 26 (((w.alloc (.cells #[.int .i64 c1.P, .int .u64 c1.x, .slice a2 n2 k2] 26)).alloc (.cells #[.int .i64 c2.P, .int .u64 c2.x, .slice a3 n3 k3] 26)).alloc (.cells #[.int .i64 c3.P, .int .u64 c3.x, .slice a4 n4 k4] 26))
    rwa [hz, hz, hz] at h
  · exact (OffI.new h1 (by omega)).below B
/-- The new struct was made ahead of a call. -/
theorem madeZ {w w' : World} (hb : Below (w.alloc (.cells #[.int .i64 0, .int .u64 0, .slice none 0 0] 26)).heap.size (w.alloc (.cells #[.int .i64 0, .int .u64 0, .slice none 0 0] 26)) w') : LSt w.heap.size 0 0 (.slice none 0 0) w' ∧ Below w.heap.size w w' ∧ w.heap.size < w'.heap.size := by
  have hz : (w.alloc (.cells #[.int .i64 0, .int .u64 0, .slice none 0 0] 26)).heap.size = w.heap.size + 1 := by simp
  have hs := hb.size
  rw [hz] at hs
  exact ⟨(LSt.new 0 0 (.slice none 0 0) 26 w).below hb (by rw [hz]; omega), bgo (b1 _) hb, hs⟩
theorem StU.fin {X : World} {G b : Nat} {d : LL} {w : World} (B : Below G X w) (z : G < w.heap.size) (hb : G < b) {P' x : Int} {v : Value} (C : LSt G P' x v w) {a : Option Addr} {n cap : Nat} (O : OffI G d.L (.slice a n cap) w) (P : OffI b d.L (.slice a n cap) w) :
    StU X G d ((((((w.setCell ⟨b, 0, none⟩ (.int .i64 d.P)).setCell ⟨b, 1, none⟩ (.int .u64 d.x)).setCell ⟨b, 2, none⟩ (.slice a n cap)).setCell ⟨G, 0, none⟩ (.int .i64 d.P)).setCell ⟨G, 1, none⟩ (.int .u64 d.x)).setCell ⟨G, 2, none⟩ (.slice a n cap)) := by
  have ho := Oth.set3 b w (.int .i64 d.P) (.int .u64 d.x) (.slice a n cap)
  exact StU.step (B.trans (ho.1.mono (Nat.le_of_lt hb))) (Nat.lt_of_lt_of_le z ho.1.size) (C.oth ho (by omega)) ⟨(P.oth ho).rd, O.2⟩
theorem StU.fin3 {X : World} {G : Nat} {d : LL} {w : World} (h : StU X G d w) (o : Obj) : StU X G d (w.alloc o) := by
  obtain ⟨h1, h2, a, n, cap, h3, h4⟩ := h
  exact ⟨h1.trans ((b1 o).mono (Nat.le_of_lt h2)), Nat.lt_trans h2 (by simp), a, n, cap, h3.below (b1 o) h2, h4.below (b1 o)⟩
theorem SkL.far {w X wr : World} {g B : Nat} {c : LL} {v : Value} (hS : SkL g c v X) (hR : RdI c.L v w) (h4 : Below w.heap.size w X) (hb : Below B X wr) (hB : w.heap.size ≤ B) (hg : g < B) (hz : B < wr.heap.size) : SkL g c v wr :=
  ⟨hS.1.below hb hg, hR.below (h4.trans (hb.mono hB)), by omega⟩
theorem insU (c d : LL) (K : ByteArray) (x : Int) (G : Nat) (wr w : World) {a : Option Addr} {n cap : Nat} (hc : WfL c) (hO : OffI G c.L (.slice a n cap) wr) (hb : Below wr.heap.size wr w) (hk : K.size ≤ maxLen) (x0 : -9223372036854775808 ≤ x) (x1 : x ≤ 9223372036854775807) (hd : llIns c K x = d) (hE : llInsE c K x = 0) :
    Calls Tryd.prog 19 #[.agg #[.int .i64 c.P, .int .u64 c.x, .slice a n cap], .agg #[.string K, .int .i64 x]] w fun e w' =>
      ∃ a n cap, e = .returned (.tuple #[.agg #[.int .i64 d.P, .int .u64 d.x, .slice a n cap], .int .i64 0]) ∧ OwnI w.heap.size d.L (.slice a n cap) w' ∧ Below w.heap.size w w' := by
  have h := lins_any c _ K x w hc (RdL.of (hO.rd.below hb)) hk x0 x1
  rw [hd, hE] at h
  refine h.mono ?_
  rintro e w' ⟨u, rfl, ⟨a, n, c, rfl, ho⟩, hb'⟩
  exact ⟨a, n, c, rfl, ho, hb'⟩
set_option maxRecDepth 100000 in
set_option maxHeartbeats 4000000 in
theorem loglogUnion_walk (a s : Int) (al : Option Addr) (ln cap : Nat) (z : List Int) (bl : Option Addr) (lm cbp : Nat) (y : List Int) (dl : Option Addr) (lo cdp : Nat) (o : List Int) (W : World) (wa : (Lit.int .i64 a).wf = true) (ws : (Lit.int .i64 s).wf = true) (w0 : InRow .i64 W al ln cap z) (w1 : InRow .i64 W bl lm cbp y) (w2 : InRow .i64 W dl lo cdp o) (ht : TabF W) :
    Calls Tryd.prog 8 #[.int .i64 a, .int .i64 s, .slice al ln cap, .slice bl lm cbp, .slice dl lo cdp] W fun e w' => e = .returned (.bool true) ∧ Below W.heap.size W w' := by
  have HT := Lib.hid ht
  clear ht
  obtain ⟨s0, s1⟩ := wf_bd ws
  have hx := wrap_bd s
  have HR1 := Lib.hid (inRow_rdJ w0)
  have HR2 := Lib.hid (inRow_rdJ w1)
  have HR3 := Lib.hid (inRow_rdJ w2)
  have hlen : (y.take lm).length = lm := by obtain ⟨h1, _⟩ := w1; simp; omega
  generalize z.take ln = L1 at *
  generalize y.take lm = L2 at *
  generalize o.take lo = L3 at *
  subst hlen
  have hlL : (L2.length : Int) ≤ 9223372036854775807 := by
    obtain ⟨_, _, _, _, h1, h2, _⟩ := HR2.out
    unfold maxLen at h2
    omega
  have hmd := ld_bd a
  have h1 := fun (w : World) (hb : Below W.heap.size W w) => made_any a s L1 _ w s0 s1 (HR1.out.below hb)
  have h2 := fun (w : World) (hb : Below W.heap.size W w) => made_any a s L2 _ w s0 s1 (HR2.out.below hb)
  have h3 := fun (w : World) (hb : Below W.heap.size W w) => made_any a s L3 _ w s0 s1 (HR3.out.below hb)
  have HW1 := Lib.hid (upL_ok a (IntKind.u64.wrap s) (L1.take 9) hx.1 hx.2).1
  have HW2 := Lib.hid (upL_ok a (IntKind.u64.wrap s) (L2.take 9) hx.1 hx.2).1
  have HW3 := Lib.hid (upL_ok a (IntKind.u64.wrap s) (L3.take 9) hx.1 hx.2).1
  have HU := unionL hmd (IntKind.u64.wrap s) (L1.take 9) (L2.take 9) (L3.take 9) rfl rfl rfl rfl rfl
  unfold madeL at h1 h2 h3
  have HAL := Lib.hid (fun k => ((newL_ok (ld_bd a) (IntKind.u64.wrap s)).up (L1.take 9)).up (L2.take k))
  generalize ldUp (newL (2 + a % 4) (IntKind.u64.wrap s)) (L1.take 9) = c1 at *
  generalize ldUp (newL (2 + a % 4) (IntKind.u64.wrap s)) (L2.take 9) = c2 at *
  generalize ldUp (newL (2 + a % 4) (IntKind.u64.wrap s)) (L3.take 9) = c3 at *
  obtain ⟨⟨u1, u2, u3, u6⟩, v1, v2, v3, v4, v5, v6⟩ := HU
  have HWA := Lib.hid (HW1.out.up (L2.take 9))
  have M1 := fun (u v : Value) (w : World) (hu : RdL c1 u w) (hv : RdL c2 v w) => lmer_any c1 c2 u v w hu hv
  have M2 := fun (u v : Value) (w : World) (hu : RdL c2 u w) (hv : RdL c1 v w) => lmer_any c2 c1 u v w hu hv
  have M3 := fun (u v : Value) (w : World) (hu : RdL (ldUp c1 (L2.take 9)) u w) (hv : RdL c3 v w) => lmer_any (ldUp c1 (L2.take 9)) c3 u v w hu hv
  have M4 := fun (u v : Value) (w : World) (hu : RdL c2 u w) (hv : RdL c3 v w) => lmer_any c2 c3 u v w hu hv
  have M5 := fun (u v : Value) (w : World) (hu : RdL c1 u w) (hv : RdL (llMer c2 c3) v w) => lmer_any c1 (llMer c2 c3) u v w hu hv
  have M6 := fun (u v : Value) (w : World) (hu : RdL (ldUp c1 (L2.take 9)) u w) (hv : RdL (ldUp c1 (L2.take 9)) v w) => lmer_any (ldUp c1 (L2.take 9)) (ldUp c1 (L2.take 9)) u v w hu hv
  rw [u6, v6] at M6
  rw [u1, v1] at M1
  rw [u2, v2] at M2
  rw [u3, v3] at M3
  rw [v4] at M4
  rw [v5] at M5
  generalize llMer c1 (llMer c2 c3) = cr at *
  generalize llMer c2 c3 = cs at *
  have HM1 := Lib.hid M1
  have HM2 := Lib.hid M2
  have HM3 := Lib.hid M3
  have HM4 := Lib.hid M4
  have HM5 := Lib.hid M5
  have HM6 := Lib.hid M6
  have HWU := Lib.hid (fun k => HW1.out.up (L2.take k))
  have HSU := Lib.hid (fun k (hk : k < L2.length) => ldUp_succ c1 hk)
  have HIN := Lib.hid (fun k j => ((HAL.out k).ins (keyS j) (wtS j) (itemS j)).2)
  have HS0 : ldUp c1 (L2.take 0) = c1 := rfl
  clear M1 M2 M3 M4 M5 M6 u1 u2 u3 u6 v1 v2 v3 v4 v5 v6 HWA HAL HW1 HW2 HW3 HR1 HR3 hx hmd wa ws w0 w1 w2 s0 s1
  go_enter Tryd.func8, Tryd.ntmps8
  go_wp2_with (first
    | (go_at_call 17; (with_reducible refine (h1 _ (Below.refl _ _)).mono ?_); rintro e w2 ⟨x2, rfl, ⟨a2, n2, k2, rfl, hr2⟩, hb2⟩; have B2 := Lib.hid hb2; have O2 := Lib.hid hr2; clear h1 hr2 hb2)
    | (go_at_call 17; (with_reducible refine (h2 _ B2.out).mono ?_); rintro e w3 ⟨x3, rfl, ⟨a3, n3, k3, rfl, hr3⟩, hb3⟩; have B3 := Lib.hid (bgo B2.out hb3); have O3 := Lib.hid (O2.out.below hb3); have P3 := Lib.hid hr3; clear h2 hr3 hb3 B2 O2)
    | (go_at_call 17; (with_reducible refine (h3 _ B3.out).mono ?_); rintro e w4 ⟨x4, rfl, ⟨a4, n4, k4, rfl, hr4⟩, hb4⟩; have B4 := Lib.hid (bgo B3.out hb4); have O4 := Lib.hid (O3.out.below hb4); have P4 := Lib.hid (P3.out.below hb4); have Q4 := Lib.hid hr4; clear h3 hr4 hb4 B3 O3 P3))
  obtain ⟨⟨s1, s2, s3⟩, s4, s5⟩ := start4 O4.out P4.out Q4.out
  have S1 := Lib.hid s1
  have S2 := Lib.hid s2
  have S3 := Lib.hid s3
  have HI := Lib.hid s4
  have BX := Lib.hid (bgo B4.out s5)
  have B4X := Lib.hid s5
  have R1 := Lib.hid O4.out
  have R2 := Lib.hid P4.out
  have R3 := Lib.hid Q4.out
  have hWG : W.heap.size ≤ w4.heap.size := B4.out.size
  clear s1 s2 s3 s4 s5 O4 P4 Q4 B4
  generalize ((((w4.alloc (.cells #[.int .i64 c1.P, .int .u64 c1.x, .slice a2 n2 k2] 26)).alloc (.cells #[.int .i64 c2.P, .int .u64 c2.x, .slice a3 n3 k3] 26)).alloc (.cells #[.int .i64 c3.P, .int .u64 c3.x, .slice a4 n4 k4] 26)).alloc (.cells #[.int .i64 c1.P, .int .u64 c1.x, .slice a2 n2 k2] 26)) = X at *
  obtain ⟨lt1, lt2, lt3, lt4, lt5⟩ : w4.heap.size < w4.heap.size + 1 + 1 + 1 ∧ w4.heap.size + 1 < w4.heap.size + 1 + 1 + 1 ∧ w4.heap.size + 1 + 1 < w4.heap.size + 1 + 1 + 1 ∧ W.heap.size ≤ w4.heap.size + 1 + 1 + 1 ∧ w4.heap.size ≤ w4.heap.size + 1 + 1 + 1 := by omega
  clear hWG
  generalize w4.heap.size + 1 + 1 + 1 = G at *
  generalize w4.heap.size + 1 + 1 = g2 at *
  generalize w4.heap.size + 1 = g1 at *
  rw [← HS0] at HI
  go_loopw [15, 16] (fun ok i wr => ∃ k : Nat, k ≤ L2.length ∧ k ≤ 9 ∧ ok = .bool true ∧ i = .int .i64 (k : Int) ∧ Hid (StU X G (ldUp c1 (L2.take k)) wr)) (fun _ i _ => 9 - (intOf i).toNat)
  case atStart => exact ⟨0, by omega, by omega, rfl, rfl, HI⟩
  case round =>
    clear HI
    obtain ⟨k, hk, hk7, rfl, rfl, HI⟩ := hrel
    obtain ⟨hbX, hgs, a5, n5, k5, hcg, hof⟩ := HI.out
    have hbw : Below W.heap.size W wr := BX.out.trans (hbX.mono lt4)
    have HC := Lib.hid hcg
    have HO := Lib.hid hof
    have HBX := Lib.hid hbX
    have HWk := HWU.out k
    by_cases hgo : k < L2.length ∧ k < 9
    · obtain ⟨hlt, hlt7⟩ := hgo
      have mz := mask16 (L2.getD k 0)
      have hz := HR2.out.at_ k
      have hit := Lib.hid (fun w => bitem_any (L2.getD k 0 % 65536) w (by omega) (by omega))
      have hks := keyS_bd (L2.getD k 0 % 65536)
      have hwt := wtS_bd (L2.getD k 0 % 65536)
      have hKs : (keyS (L2.getD k 0 % 65536)).size ≤ maxLen := by unfold maxLen; omega
      have hE := HIN.out k (L2.getD k 0 % 65536)
      obtain ⟨d, hd⟩ : ∃ d, ldUp c1 (L2.take (k + 1)) = d := ⟨_, rfl⟩
      have hd2 := HSU.out k hlt
      rw [hd] at hd2
      have HD := Lib.hid hd
      have hlI : (k : Int) < (L2.length : Int) := by omega
      have h7I : (k : Int) < 9 := by omega
      have hk0 : (0 : Int) ≤ (k : Int) := by omega
      obtain ⟨_, a6, cap6, he6, _, _, hc6⟩ := HR2.out.below hbw
      simp only [Value.slice.injEq, true_and] at he6
      obtain ⟨rfl, rfl⟩ := he6
      obtain ⟨b6, off6, rfl, hb6, hcell6⟩ := hc6 (by omega)
      have hcc6 := hcell6 k hlt
      clear hcell6 hc6 hks hz hbw hof hd
      generalize L2.getD k 0 = y at *
      generalize y % 65536 = j at *
      generalize keyS j = K1 at *
      generalize wtS j = x at *
      generalize ldUp c1 (L2.take k) = c at *
      have H2 := Lib.hid (fun (w : World) (hS : Below wr.heap.size wr w) => insU c d K1 x G wr w HWk HO.out hS hKs (by omega) (by omega) hd2.symm hE)
      obtain ⟨⟨p0, p1, p2⟩, -⟩ := HC.out
      clear hcg HWk hE hd2 hKs hbX
      go_wp2
      go_region_law (first
        | (go_simp; go_at_call 18; (with_reducible refine (hit.out _).mono ?_); rintro e w3 ⟨rfl, hb3⟩; (first
            | (have zz0 := madeZ (w := wr.drewN _) hb3; obtain ⟨zz, hb, hz3⟩ := zz0; have Z3 : Hid (LSt wr.heap.size 0 0 (.slice none 0 0) w3) := Lib.hid zz; replace hz3 : wr.heap.size < w3.heap.size := hz3; have B3 : Hid (Below wr.heap.size wr w3) := Lib.hid (bgo (below_drewN (Below.refl _ wr) _) hb); clear zz hb)
            | (have zz0 := madeZ (w := wr) hb3; obtain ⟨zz, hb, hz3⟩ := zz0; have Z3 := Lib.hid zz; have B3 : Hid (Below wr.heap.size wr w3) := Lib.hid hb; clear zz hb)
            | (have B3 : Hid (Below wr.heap.size wr w3) := Lib.hid (bgo (below_drewN (Below.refl _ wr) _) hb3))); have C3 := Lib.hid (LSt.below HC.out B3.out hgs); have X3 := Lib.hid (HBX.out.trans (B3.out.mono (Nat.le_of_lt hgs))); have z3 := Nat.lt_of_lt_of_le hgs B3.out.size; obtain ⟨⟨p0, p1, p2⟩, -⟩ := C3.out; try clear hb3)
        | (go_simp; go_at_call 19; (with_reducible refine (H2.out _ (by first | exact B3.out | exact bal B3.out _)).mono ?_); rintro e w5 ⟨a7, n7, k7, rfl, ho7, hb5⟩; clear p0 p1 p2; (first
            | (have Z5 := Lib.hid (Z3.out.below hb5 hz3); have P5 := Lib.hid (OffI.own ho7 hz3); have Y5 := Lib.hid hb5; clear Z3 hz3)
            | (have zz0 := madeZ (w := w3) hb5; obtain ⟨zz, hb, hz5⟩ := zz0; have Z5 := Lib.hid zz; have P5 := Lib.hid (OffI.own (g := w3.heap.size) ho7 (by simp)); have Y5 := Lib.hid hb; clear zz hb)
            | (have Y5 := Lib.hid hb5)); have C5 := Lib.hid (C3.out.below Y5.out z3); have X5 := Lib.hid (X3.out.trans (Y5.out.mono (Nat.le_of_lt z3))); have O5 : Hid (OffI G d.L (.slice a7 n7 k7) w5) := Lib.hid (OffI.own ho7 (by first | exact z3 | (simp; omega))); have z5 := Nat.lt_of_lt_of_le z3 Y5.out.size; (try clear hb5 ho7 Y5); (have ne1 : ¬ w5.heap.size = G := by omega); (have ne2 : ¬ G = w5.heap.size := by omega); (have ne3 : ¬ w3.heap.size = G := by omega); (have ne4 : ¬ G = w3.heap.size := by omega); (have ne5 : ¬ wr.heap.size = G := by omega); (have ne6 : ¬ G = wr.heap.size := by omega); (try (obtain ⟨⟨q0, q1, q2⟩, y0, y1, y2⟩ := Z5.out)); obtain ⟨⟨p0, p1, p2⟩, f0, f1, f2⟩ := C5.out))
      all_goals
        go_wp2
      all_goals
        refine ⟨⟨k + 1, by omega, by omega, rfl, by go_num, ?_⟩, by simp [intOf]; omega⟩
        rw [HD.out]
        refine Lib.hid ?_
        first
          | with_reducible exact StU.fin3 (StU.step X5.out z5 C5.out O5.out) _
          | with_reducible exact StU.fin X5.out z5 hgs C5.out O5.out P5.out
          | with_reducible exact StU.fin X5.out z5 z3 C5.out O5.out P5.out
    · have hA : ldUp c1 (L2.take k) = ldUp c1 (L2.take 9) := by
        by_cases h7 : k = 9
        · rw [h7]
        · rw [List.take_of_length_le (show L2.length ≤ k by omega), List.take_of_length_le (show L2.length ≤ 9 by omega)]
      have hgo2 : (¬ (k : Int) < (L2.length : Int)) ∨ ((k : Int) < (L2.length : Int) ∧ ¬ (k : Int) < 9) := by omega
      rw [hA] at hcg hof
      have TA := Lib.hid (show SkL G (ldUp c1 (L2.take 9)) (.slice a5 n5 k5) wr from ⟨hcg, hof.rd, hgs⟩)
      have T1 := Lib.hid (SkL.far S1.out R1.out B4X.out hbX lt5 lt1 hgs)
      have T2 := Lib.hid (SkL.far S2.out R2.out B4X.out hbX lt5 lt2 hgs)
      have T3 := Lib.hid (SkL.far S3.out R3.out B4X.out hbX lt5 lt3 hgs)
      have BW := Lib.hid hbw
      clear hA hcg hof HI HC HO HBX HWk HWU HSU HIN hgo S1 S2 S3 R1 R2 R3 hbX hbw
      generalize ldUp c1 (L2.take 9) = A at *
      obtain ⟨⟨⟨p0, p1, p2⟩, -⟩, -⟩ := T1.out
      obtain ⟨⟨⟨q0, q1, q2⟩, -⟩, -⟩ := T2.out
      rcases hgo2 with hg1 | ⟨hg1, hg2⟩
      all_goals
        go_wp2_with (first
          | (go_at_call 23; (with_reducible refine (HM1.out _ _ _ T1.out.rd T2.out.rd).mono ?_); rintro e w6 ⟨v6, rfl, ⟨a6, n6, k6, rfl, ho6⟩, hb6⟩; replace T1 := Lib.hid ((T1.out.below hb6).alloc (.cells #[.int .i64 A.P, .int .u64 A.x, .slice a6 n6 k6] 26)); replace T2 := Lib.hid ((T2.out.below hb6).alloc (.cells #[.int .i64 A.P, .int .u64 A.x, .slice a6 n6 k6] 26)); replace T3 := Lib.hid ((T3.out.below hb6).alloc (.cells #[.int .i64 A.P, .int .u64 A.x, .slice a6 n6 k6] 26)); replace TA := Lib.hid ((TA.out.below hb6).alloc (.cells #[.int .i64 A.P, .int .u64 A.x, .slice a6 n6 k6] 26)); have TP := Lib.hid (SkL.new ho6.rd 26); replace BW := Lib.hid (bal (bgo BW.out hb6) (.cells #[.int .i64 A.P, .int .u64 A.x, .slice a6 n6 k6] 26)); (try clear p0 p1 p2); (try clear q0 q1 q2); clear ho6 hb6 HM1; obtain ⟨⟨⟨p0, p1, p2⟩, -⟩, -⟩ := T2.out; obtain ⟨⟨⟨q0, q1, q2⟩, -⟩, -⟩ := T1.out)
          | (go_at_call 23; (with_reducible refine (HM2.out _ _ _ T2.out.rd T1.out.rd).mono ?_); rintro e w7 ⟨v7, rfl, ⟨a7, n7, k7, rfl, ho7⟩, hb7⟩; replace T1 := Lib.hid ((T1.out.below hb7).alloc (.cells #[.int .i64 A.P, .int .u64 A.x, .slice a7 n7 k7] 26)); replace T2 := Lib.hid ((T2.out.below hb7).alloc (.cells #[.int .i64 A.P, .int .u64 A.x, .slice a7 n7 k7] 26)); replace T3 := Lib.hid ((T3.out.below hb7).alloc (.cells #[.int .i64 A.P, .int .u64 A.x, .slice a7 n7 k7] 26)); replace TA := Lib.hid ((TA.out.below hb7).alloc (.cells #[.int .i64 A.P, .int .u64 A.x, .slice a7 n7 k7] 26)); replace TP := Lib.hid ((TP.out.below hb7).alloc (.cells #[.int .i64 A.P, .int .u64 A.x, .slice a7 n7 k7] 26)); have TQ := Lib.hid (SkL.new ho7.rd 26); replace BW := Lib.hid (bal (bgo BW.out hb7) (.cells #[.int .i64 A.P, .int .u64 A.x, .slice a7 n7 k7] 26)); (try clear p0 p1 p2); (try clear q0 q1 q2); clear ho7 hb7 HM2; obtain ⟨⟨⟨p0, p1, p2⟩, -⟩, -⟩ := TP.out; obtain ⟨⟨⟨q0, q1, q2⟩, -⟩, -⟩ := T3.out)
          | (go_at_call 23; (with_reducible refine (HM3.out _ _ _ TP.out.rd T3.out.rd).mono ?_); rintro e w8 ⟨v8, rfl, ⟨a8, n8, k8, rfl, ho8⟩, hb8⟩; replace T1 := Lib.hid ((T1.out.below hb8).alloc (.cells #[.int .i64 cr.P, .int .u64 cr.x, .slice a8 n8 k8] 26)); replace T2 := Lib.hid ((T2.out.below hb8).alloc (.cells #[.int .i64 cr.P, .int .u64 cr.x, .slice a8 n8 k8] 26)); replace T3 := Lib.hid ((T3.out.below hb8).alloc (.cells #[.int .i64 cr.P, .int .u64 cr.x, .slice a8 n8 k8] 26)); replace TA := Lib.hid ((TA.out.below hb8).alloc (.cells #[.int .i64 cr.P, .int .u64 cr.x, .slice a8 n8 k8] 26)); replace TP := Lib.hid ((TP.out.below hb8).alloc (.cells #[.int .i64 cr.P, .int .u64 cr.x, .slice a8 n8 k8] 26)); replace TQ := Lib.hid ((TQ.out.below hb8).alloc (.cells #[.int .i64 cr.P, .int .u64 cr.x, .slice a8 n8 k8] 26)); have TR := Lib.hid (SkL.new ho8.rd 26); replace BW := Lib.hid (bal (bgo BW.out hb8) (.cells #[.int .i64 cr.P, .int .u64 cr.x, .slice a8 n8 k8] 26)); (try clear p0 p1 p2); (try clear q0 q1 q2); clear ho8 hb8 HM3; obtain ⟨⟨⟨p0, p1, p2⟩, -⟩, -⟩ := T2.out; obtain ⟨⟨⟨q0, q1, q2⟩, -⟩, -⟩ := T3.out)
          | (go_at_call 23; (with_reducible refine (HM4.out _ _ _ T2.out.rd T3.out.rd).mono ?_); rintro e w9 ⟨v9, rfl, ⟨a9, n9, k9, rfl, ho9⟩, hb9⟩; replace T1 := Lib.hid ((T1.out.below hb9).alloc (.cells #[.int .i64 cs.P, .int .u64 cs.x, .slice a9 n9 k9] 26)); replace T2 := Lib.hid ((T2.out.below hb9).alloc (.cells #[.int .i64 cs.P, .int .u64 cs.x, .slice a9 n9 k9] 26)); replace T3 := Lib.hid ((T3.out.below hb9).alloc (.cells #[.int .i64 cs.P, .int .u64 cs.x, .slice a9 n9 k9] 26)); replace TA := Lib.hid ((TA.out.below hb9).alloc (.cells #[.int .i64 cs.P, .int .u64 cs.x, .slice a9 n9 k9] 26)); replace TP := Lib.hid ((TP.out.below hb9).alloc (.cells #[.int .i64 cs.P, .int .u64 cs.x, .slice a9 n9 k9] 26)); replace TQ := Lib.hid ((TQ.out.below hb9).alloc (.cells #[.int .i64 cs.P, .int .u64 cs.x, .slice a9 n9 k9] 26)); replace TR := Lib.hid ((TR.out.below hb9).alloc (.cells #[.int .i64 cs.P, .int .u64 cs.x, .slice a9 n9 k9] 26)); have TS := Lib.hid (SkL.new ho9.rd 26); replace BW := Lib.hid (bal (bgo BW.out hb9) (.cells #[.int .i64 cs.P, .int .u64 cs.x, .slice a9 n9 k9] 26)); (try clear p0 p1 p2); (try clear q0 q1 q2); clear ho9 hb9 HM4; obtain ⟨⟨⟨p0, p1, p2⟩, -⟩, -⟩ := T1.out; obtain ⟨⟨⟨q0, q1, q2⟩, -⟩, -⟩ := TS.out)
          | (go_at_call 23; (with_reducible refine (HM5.out _ _ _ T1.out.rd TS.out.rd).mono ?_); rintro e w10 ⟨v10, rfl, ⟨a10, n10, k10, rfl, ho10⟩, hb10⟩; replace T1 := Lib.hid ((T1.out.below hb10).alloc (.cells #[.int .i64 cr.P, .int .u64 cr.x, .slice a10 n10 k10] 26)); replace T2 := Lib.hid ((T2.out.below hb10).alloc (.cells #[.int .i64 cr.P, .int .u64 cr.x, .slice a10 n10 k10] 26)); replace T3 := Lib.hid ((T3.out.below hb10).alloc (.cells #[.int .i64 cr.P, .int .u64 cr.x, .slice a10 n10 k10] 26)); replace TA := Lib.hid ((TA.out.below hb10).alloc (.cells #[.int .i64 cr.P, .int .u64 cr.x, .slice a10 n10 k10] 26)); replace TP := Lib.hid ((TP.out.below hb10).alloc (.cells #[.int .i64 cr.P, .int .u64 cr.x, .slice a10 n10 k10] 26)); replace TQ := Lib.hid ((TQ.out.below hb10).alloc (.cells #[.int .i64 cr.P, .int .u64 cr.x, .slice a10 n10 k10] 26)); replace TR := Lib.hid ((TR.out.below hb10).alloc (.cells #[.int .i64 cr.P, .int .u64 cr.x, .slice a10 n10 k10] 26)); replace TS := Lib.hid ((TS.out.below hb10).alloc (.cells #[.int .i64 cr.P, .int .u64 cr.x, .slice a10 n10 k10] 26)); have TT := Lib.hid (SkL.new ho10.rd 26); replace BW := Lib.hid (bal (bgo BW.out hb10) (.cells #[.int .i64 cr.P, .int .u64 cr.x, .slice a10 n10 k10] 26)); (try clear p0 p1 p2); (try clear q0 q1 q2); clear ho10 hb10 HM5; obtain ⟨⟨⟨p0, p1, p2⟩, -⟩, -⟩ := TP.out)
          | (go_at_call 23; (with_reducible refine (HM6.out _ _ _ TP.out.rd TP.out.rd).mono ?_); rintro e w11 ⟨v11, rfl, ⟨a11, n11, k11, rfl, ho11⟩, hb11⟩; replace T1 := Lib.hid ((T1.out.below hb11).alloc (.cells #[.int .i64 A.P, .int .u64 A.x, .slice a11 n11 k11] 26)); replace T2 := Lib.hid ((T2.out.below hb11).alloc (.cells #[.int .i64 A.P, .int .u64 A.x, .slice a11 n11 k11] 26)); replace T3 := Lib.hid ((T3.out.below hb11).alloc (.cells #[.int .i64 A.P, .int .u64 A.x, .slice a11 n11 k11] 26)); replace TA := Lib.hid ((TA.out.below hb11).alloc (.cells #[.int .i64 A.P, .int .u64 A.x, .slice a11 n11 k11] 26)); replace TP := Lib.hid ((TP.out.below hb11).alloc (.cells #[.int .i64 A.P, .int .u64 A.x, .slice a11 n11 k11] 26)); replace TQ := Lib.hid ((TQ.out.below hb11).alloc (.cells #[.int .i64 A.P, .int .u64 A.x, .slice a11 n11 k11] 26)); replace TR := Lib.hid ((TR.out.below hb11).alloc (.cells #[.int .i64 A.P, .int .u64 A.x, .slice a11 n11 k11] 26)); replace TS := Lib.hid ((TS.out.below hb11).alloc (.cells #[.int .i64 A.P, .int .u64 A.x, .slice a11 n11 k11] 26)); replace TT := Lib.hid ((TT.out.below hb11).alloc (.cells #[.int .i64 A.P, .int .u64 A.x, .slice a11 n11 k11] 26)); have TU := Lib.hid (SkL.new ho11.rd 26); replace BW := Lib.hid (bal (bgo BW.out hb11) (.cells #[.int .i64 A.P, .int .u64 A.x, .slice a11 n11 k11] 26)); (try clear p0 p1 p2); (try clear q0 q1 q2); clear ho11 hb11 HM6; obtain ⟨⟨⟨p0, p1, p2⟩, -⟩, -⟩ := TP.out; obtain ⟨⟨⟨q0, q1, q2⟩, -⟩, -⟩ := TA.out)
          | (go_at_call 15; (with_reducible refine (sameL_any A _ _ _ TP.out.rd TA.out.rd).mono ?_); rintro e w12 ⟨rfl, hb12⟩; replace TP := Lib.hid (TP.out.below hb12); replace TQ := Lib.hid (TQ.out.below hb12); replace TA := Lib.hid (TA.out.below hb12); replace TR := Lib.hid (TR.out.below hb12); replace TT := Lib.hid (TT.out.below hb12); replace TU := Lib.hid (TU.out.below hb12); replace BW := Lib.hid (bgo BW.out hb12); (try clear p0 p1 p2); (try clear q0 q1 q2); clear hb12 ; obtain ⟨⟨⟨p0, p1, p2⟩, -⟩, -⟩ := TQ.out; obtain ⟨⟨⟨q0, q1, q2⟩, -⟩, -⟩ := TA.out)
          | (go_at_call 15; (with_reducible refine (sameL_any A _ _ _ TQ.out.rd TA.out.rd).mono ?_); rintro e w13 ⟨rfl, hb13⟩; replace TP := Lib.hid (TP.out.below hb13); replace TR := Lib.hid (TR.out.below hb13); replace TT := Lib.hid (TT.out.below hb13); replace TU := Lib.hid (TU.out.below hb13); replace BW := Lib.hid (bgo BW.out hb13); (try clear p0 p1 p2); (try clear q0 q1 q2); clear hb13 TQ TA; obtain ⟨⟨⟨p0, p1, p2⟩, -⟩, -⟩ := TR.out; obtain ⟨⟨⟨q0, q1, q2⟩, -⟩, -⟩ := TT.out)
          | (go_at_call 15; (with_reducible refine (sameL_any cr _ _ _ TR.out.rd TT.out.rd).mono ?_); rintro e w14 ⟨rfl, hb14⟩; replace TP := Lib.hid (TP.out.below hb14); replace TU := Lib.hid (TU.out.below hb14); replace BW := Lib.hid (bgo BW.out hb14); (try clear p0 p1 p2); (try clear q0 q1 q2); clear hb14 TR TT; obtain ⟨⟨⟨p0, p1, p2⟩, -⟩, -⟩ := TU.out; obtain ⟨⟨⟨q0, q1, q2⟩, -⟩, -⟩ := TP.out)
          | (go_at_call 15; (with_reducible refine (sameL_any A _ _ _ TU.out.rd TP.out.rd).mono ?_); rintro e w15 ⟨rfl, hb15⟩; replace BW := Lib.hid (bgo BW.out hb15); (try clear p0 p1 p2); (try clear q0 q1 q2); clear hb15 )
          | (go_at_call 10; (with_reducible refine (known_any _ (HT.out.below BW.out)).mono ?_); rintro e wz ⟨rfl, hbz⟩; have BZ := Lib.hid (bgo BW.out hbz); clear hbz))
        go_ret
        exact ⟨rfl, BZ.out⟩
end Go.Proofs.YtgnopnifdiipkaaDoor
