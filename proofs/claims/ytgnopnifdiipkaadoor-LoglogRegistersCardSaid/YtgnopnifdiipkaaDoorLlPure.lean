/- Facts on LogLog sketches as numbers: what insertions keep; registers as greatest ranks. -/
import Derived.Test.YtgnopnifdiipkaaDoorMade8
namespace Go.Proofs.YtgnopnifdiipkaaDoor
open Go.RowKit
set_option linter.unusedVariables false
set_option linter.unusedSimpArgs false
theorem lins_ok {c : LL} (h : llE c.P c.L = 0) (k : ByteArray) (n : Int) (hi : itemE (byt k) n = 0) :
    llIns c k n = ⟨c.P, c.x, c.L.set (regI c.P c.x k) (max (c.L.getD (regI c.P c.x k) 0) (rnkI c.P c.x k))⟩ ∧ llE c.P (c.L.set (regI c.P c.x k) (max (c.L.getD (regI c.P c.x k) 0) (rnkI c.P c.x k))) = 0 ∧ llInsE c k n = 0 := by
  obtain ⟨h1, h2, h3⟩ := llE_ok h
  refine ⟨?_, llE_mk h1 (by rw [List.length_set]; exact h2) (fun m hm => ?_), ?_⟩
  · unfold llIns
    rw [if_neg (by simp [h]), if_neg (by simp [hi])]
  · rcases List.mem_or_eq_of_mem_set hm with hm | rfl
    · exact h3 m hm
    · have hr := rnkI_bd (x := c.x) (k := k) h1
      have hl := regI_lt (x := c.x) (k := k) h1
      rw [← h2] at hl
      have := h3 _ (List.getElem_mem hl)
      simp only [List.getD, List.getElem?_eq_getElem hl, Option.getD_some]
      omega
  · unfold llInsE
    rw [if_neg (by simp [h]), hi]
/-- d is a sketch of c's precision and seed. -/
def AlikeL (c d : LL) : Prop := d.P = c.P ∧ d.x = c.x ∧ llE c.P d.L = 0
theorem AlikeL.ins {c d : LL} (h : AlikeL c d) (k : ByteArray) (n : Int) (hi : itemE (byt k) n = 0) : AlikeL c (llIns d k n) ∧ llInsE d k n = 0 := by
  obtain ⟨h1, h2, h3⟩ := h
  obtain ⟨e1, e2, e3⟩ := lins_ok (c := d) (by rw [h1]; exact h3) k n hi
  rw [e1]
  refine ⟨⟨h1, h2, ?_⟩, e3⟩
  have := e2
  rw [h1] at this
  show llE c.P _ = 0
  rw [h1]
  exact this
theorem AlikeL.up {c d : LL} (h : AlikeL c d) (l : List Int) : AlikeL c (ldUp d l) := by
  unfold ldUp
  induction l generalizing d with
  | nil => exact h
  | cons n l ih => exact ih (h.ins _ _ (itemS _)).1
theorem newL_eq {P : Int} (h : 2 ≤ P ∧ P ≤ 8) (x : Int) : newL P x = ⟨P, x, List.replicate (llN P) 0⟩ := by
  unfold newL
  rw [if_pos ((prB_iff P).2 h)]
theorem newL_ok {P : Int} (h : 2 ≤ P ∧ P ≤ 8) (x : Int) : AlikeL (newL P x) (newL P x) := by
  rw [newL_eq h]
  refine ⟨rfl, rfl, llE_mk h (by dsimp only; rw [List.length_replicate]) (fun m hm => ?_)⟩
  rw [List.eq_of_mem_replicate hm]
  dsimp only
  omega
theorem ld_bd (a : Int) : 2 ≤ 2 + a % 4 ∧ 2 + a % 4 ≤ 8 := by omega
theorem upL_ok (a x : Int) (l : List Int) (x0 : 0 ≤ x) (x1 : x ≤ 18446744073709551615) :
    WfL (ldUp (newL (2 + a % 4) x) l) ∧ 0 < (ldUp (newL (2 + a % 4) x) l).L.length ∧ (ldUp (newL (2 + a % 4) x) l).L.length ≤ 1000 ∧ 2 ≤ (ldUp (newL (2 + a % 4) x) l).P ∧ (ldUp (newL (2 + a % 4) x) l).P ≤ 8 := by
  have hw : WfL (newL (2 + a % 4) x) := WfL.new x0 x1
  refine ⟨hw.up l, ?_⟩
  obtain ⟨h1, h2, h3⟩ := (newL_ok (ld_bd a) x).up l
  obtain ⟨o1, o2, o3⟩ := llE_ok h3
  have hN := llN_bd o1
  rw [h1]
  omega
/-- Registers as the greatest ranks T. -/
def Mx (L : List Int) (T : Nat → Int) : Prop := (∀ i, 0 ≤ T i) ∧ ∀ i, i < L.length → L.getD i 0 = T i
theorem Mx.one {L M : List Int} {T : Nat → Int} (h : Mx L T) (k : Mx M T) (hl : L.length = M.length) : L = M := by
  apply List.ext_getElem?
  intro i
  by_cases hi : i < L.length
  · have e1 := h.2 i hi
    have e2 := k.2 i (by omega)
    rw [← e2] at e1
    simp only [List.getD, List.getElem?_eq_getElem hi, List.getElem?_eq_getElem (show i < M.length by omega), Option.getD_some] at e1
    rw [List.getElem?_eq_getElem hi, List.getElem?_eq_getElem (show i < M.length by omega), e1]
  · rw [List.getElem?_eq_none (by omega), List.getElem?_eq_none (by omega)]
/-- One register raised to r. -/
def upM (T : Nat → Int) (j : Nat) (r : Int) (i : Nat) : Int := if i = j then max (T i) r else T i
theorem Mx.set {L : List Int} {T : Nat → Int} (h : Mx L T) (j : Nat) (r : Int) (hj : j < L.length) : Mx (L.set j (max (L.getD j 0) r)) (upM T j r) := by
  refine ⟨fun i => ?_, fun i hi => ?_⟩
  · have := h.1 i
    unfold upM
    split <;> omega
  · rw [List.length_set] at hi
    unfold upM
    by_cases e : i = j
    · subst e
      rw [if_pos rfl, ← h.2 i hi]
      simp [List.getD, List.getElem?_set_self hi, hi]
    · rw [if_neg e, ← h.2 i hi]
      simp [List.getD, List.getElem?_set, Ne.symm e]
theorem upM_max (T U : Nat → Int) (j : Nat) (r : Int) : upM (fun i => max (T i) (U i)) j r = fun i => max (T i) (upM U j r i) := by
  funext i
  show (if i = j then max (max (T i) (U i)) r else max (T i) (U i)) = max (T i) (if i = j then max (U i) r else U i)
  split <;> omega
def maxs (P x : Int) (T : Nat → Int) (l : List Int) : Nat → Int := l.foldl (fun T n => upM T (regI P x (keyS (n % 65536))) (rnkI P x (keyS (n % 65536)))) T
theorem maxs_max (P x : Int) (T : Nat → Int) (l : List Int) : ∀ U : Nat → Int, maxs P x (fun i => max (T i) (U i)) l = fun i => max (T i) (maxs P x U l i) := by
  unfold maxs
  induction l with
  | nil => intro U; rfl
  | cons n l ih =>
    intro U
    rw [List.foldl_cons, List.foldl_cons, ← ih, upM_max]
theorem Mx.ins {c d : LL} (h : AlikeL c d) {T : Nat → Int} (t : Mx d.L T) (k : ByteArray) (n : Int) (hi : itemE (byt k) n = 0) : Mx (llIns d k n).L (upM T (regI c.P c.x k) (rnkI c.P c.x k)) := by
  obtain ⟨h1, h2, h3⟩ := h
  rw [(lins_ok (c := d) (by rw [h1]; exact h3) k n hi).1]
  dsimp only
  obtain ⟨o1, o2, _⟩ := llE_ok h3
  rw [h1, h2]
  exact t.set _ _ (by rw [o2]; exact regI_lt o1)
theorem Mx.up {c d : LL} (h : AlikeL c d) {T : Nat → Int} (t : Mx d.L T) (l : List Int) : Mx (ldUp d l).L (maxs c.P c.x T l) := by
  unfold ldUp maxs
  induction l generalizing d T with
  | nil => exact t
  | cons n l ih => exact ih (h.ins _ _ (itemS _)).1 (Mx.ins h t _ _ (itemS _))
theorem Mx.new {P : Int} (h : 2 ≤ P ∧ P ≤ 8) (x : Int) : Mx (newL P x).L (fun _ => 0) := by
  rw [newL_eq h]
  refine ⟨fun _ => Int.le_refl _, fun i hi => ?_⟩
  dsimp only at hi ⊢
  rw [List.length_replicate] at hi
  simp [List.getD, hi]
theorem merL_ok {c d e : LL} (h : AlikeL c d) (k : AlikeL c e) : llMerE d e = 0 ∧ llMer d e = ⟨c.P, c.x, maxL d.L e.L d.L.length⟩ := by
  obtain ⟨h1, h2, h3⟩ := h
  obtain ⟨k1, k2, k3⟩ := k
  have e0 : llMerE d e = 0 := by
    unfold llMerE
    rw [h1, k1, if_neg (by simp [h3]), if_neg (by simp [k3]), h2, k2, if_neg (by simp)]
  refine ⟨e0, ?_⟩
  unfold llMer
  rw [if_neg (by simp [e0]), h1, h2]
theorem lenL {c d e : LL} (h : AlikeL c d) (k : AlikeL c e) : d.L.length = e.L.length := by
  rw [(llE_ok h.2.2).2.1, (llE_ok k.2.2).2.1]
theorem AlikeL.mer {c d e : LL} (h : AlikeL c d) (k : AlikeL c e) : AlikeL c (llMer d e) := by
  rw [(merL_ok h k).2]
  obtain ⟨o, l, g⟩ := llE_ok h.2.2
  obtain ⟨_, l2, g2⟩ := llE_ok k.2.2
  refine ⟨rfl, rfl, llE_mk o (by rw [maxL_len]; exact l) (fun m hm => ?_)⟩
  unfold maxL at hm
  obtain ⟨j, hj, rfl⟩ := List.mem_map.1 hm
  have hj := List.mem_range.1 hj
  have a := g _ (List.getElem_mem hj)
  have b := g2 _ (List.getElem_mem (show j < e.L.length by omega))
  simp only [List.getD, List.getElem?_eq_getElem hj, List.getElem?_eq_getElem (show j < e.L.length by omega), Option.getD_some]
  omega
theorem Mx.mer {c d e : LL} (h : AlikeL c d) (k : AlikeL c e) {T U : Nat → Int} (t : Mx d.L T) (u : Mx e.L U) : Mx (llMer d e).L (fun i => max (T i) (U i)) := by
  rw [(merL_ok h k).2]
  dsimp only
  have hl := lenL h k
  refine ⟨fun i => by have := t.1 i; show 0 ≤ max (T i) (U i); omega, fun i hi => ?_⟩
  rw [maxL_len] at hi
  show _ = max (T i) (U i)
  rw [← t.2 i hi, ← u.2 i (by omega)]
  unfold maxL
  simp [List.getD, hi]
theorem alikeL_one {c d e : LL} (h : AlikeL c d) (k : AlikeL c e) {T : Nat → Int} (t : Mx d.L T) (u : Mx e.L T) : d = e := by
  have hq := t.one u (lenL h k)
  obtain ⟨h1, h2, _⟩ := h
  obtain ⟨k1, k2, _⟩ := k
  cases d
  cases e
  simp_all
/-- Merging is inserting all, in either order, however bracketed, any number of times. -/
theorem unionL {P : Int} (h : 2 ≤ P ∧ P ≤ 8) (x : Int) (l m o : List Int) {c0 X Y Z A : LL} (h0 : c0 = newL P x) (hX : X = ldUp c0 l) (hY : Y = ldUp c0 m) (hZ : Z = ldUp c0 o) (hA : A = ldUp X m) :
    (llMer X Y = A ∧ llMer Y X = A ∧ llMer A Z = llMer X (llMer Y Z) ∧ llMer A A = A) ∧ llMerE X Y = 0 ∧ llMerE Y X = 0 ∧ llMerE A Z = 0 ∧ llMerE Y Z = 0 ∧ llMerE X (llMer Y Z) = 0 ∧ llMerE A A = 0 := by
  have k0 : AlikeL c0 c0 := by rw [h0]; exact newL_ok h x
  have t0 : Mx c0.L (fun _ => 0) := by rw [h0]; exact Mx.new h x
  have kX : AlikeL c0 X := by rw [hX]; exact k0.up l
  have kY : AlikeL c0 Y := by rw [hY]; exact k0.up m
  have kZ : AlikeL c0 Z := by rw [hZ]; exact k0.up o
  have kA : AlikeL c0 A := by rw [hA]; exact kX.up m
  have tX : Mx X.L (maxs c0.P c0.x (fun _ => 0) l) := by rw [hX]; exact Mx.up k0 t0 l
  have tY : Mx Y.L (maxs c0.P c0.x (fun _ => 0) m) := by rw [hY]; exact Mx.up k0 t0 m
  have tZ : Mx Z.L (maxs c0.P c0.x (fun _ => 0) o) := by rw [hZ]; exact Mx.up k0 t0 o
  have tA : Mx A.L (maxs c0.P c0.x (maxs c0.P c0.x (fun _ => 0) l) m) := by rw [hA]; exact Mx.up kX tX m
  have e : maxs c0.P c0.x (maxs c0.P c0.x (fun _ => 0) l) m = fun i => max (maxs c0.P c0.x (fun _ => 0) l i) (maxs c0.P c0.x (fun _ => 0) m i) := by
    rw [← maxs_max]
    congr 1
    funext i
    have := tX.1 i
    omega
  rw [e] at tA
  generalize maxs c0.P c0.x (fun _ => 0) l = T1 at *
  generalize maxs c0.P c0.x (fun _ => 0) m = T2 at *
  generalize maxs c0.P c0.x (fun _ => 0) o = T3 at *
  clear e hX hY hZ hA h0 k0 t0
  have kYZ := kY.mer kZ
  have tYZ := Mx.mer kY kZ tY tZ
  refine ⟨⟨alikeL_one (kX.mer kY) kA (Mx.mer kX kY tX tY) tA, alikeL_one (kY.mer kX) kA ?_ tA, alikeL_one (kA.mer kZ) (kX.mer kYZ) (Mx.mer kA kZ tA tZ) ?_, alikeL_one (kA.mer kA) kA ?_ tA⟩, (merL_ok kX kY).1, (merL_ok kY kX).1, (merL_ok kA kZ).1, (merL_ok kY kZ).1, (merL_ok kX kYZ).1, (merL_ok kA kA).1⟩
  · have := Mx.mer kY kX tY tX
    rwa [show (fun i => max (T2 i) (T1 i)) = (fun i => max (T1 i) (T2 i)) from funext fun i => Int.max_comm _ _] at this
  · have := Mx.mer kX kYZ tX tYZ
    rwa [show (fun i => max (T1 i) (max (T2 i) (T3 i))) = (fun i => max (max (T1 i) (T2 i)) (T3 i)) from funext fun i => (Int.max_assoc _ _ _).symm] at this
  · have := Mx.mer kA kA tA tA
    rwa [show (fun i => max (max (T1 i) (T2 i)) (max (T1 i) (T2 i))) = (fun i => max (T1 i) (T2 i)) from funext fun i => Int.max_self _] at this
end Go.Proofs.YtgnopnifdiipkaaDoor
