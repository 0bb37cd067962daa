/- The bytes of a summary of layer 10; the contracts of frequent's appendUints and Encode. -/
import Derived.Test.YtmmdnomfpfcjiaaFqV
import Derived.Test.YtmmdnomfpfcjiaaTallyEnc
import Derived.Test.YtmmdnomfpfcjiaaPFVal
import Derived.Test.YtmmdnomfpfcjiaaFqA
import Derived.Test.YtmmdnomfpfcjiaaMeetX
import Derived.Test.YtmmdnomfpfcjiaaOthI
namespace Go.Proofs.Ytmmdnomfpfcjiaa
open Go.RowKit
set_option linter.unusedVariables false
set_option linter.unusedSimpArgs false
theorem row_apart {w : World} {B B' : Nat} {t t' : TypeId} {m m' : Nat} {v v' : Value} {n n' : Nat} {c c' : List Value} (h : w.ownsRow B t m v n c) (h' : w.ownsRow B' t' m' v' n' c') (ht : t ≠ t') {g : Nat} (hg : v.ownBlock = some g) : v'.ownBlock ≠ some g := by
  intro e
  rcases h.2 with ⟨rfl, _⟩ | ⟨g1, cap, cur, rfl, _, hc, _⟩
  · cases hg
  · injection hg with hg
    have hg : g1 = g := hg
    subst hg
    rcases h'.2 with ⟨rfl, _⟩ | ⟨g2, cap2, cur2, rfl, _, hc2, _⟩
    · cases e
    · injection e with e
      have e : g2 = g1 := e
      subst e
      rw [hc] at hc2
      injection hc2 with hc2
      injection hc2 with _ h3 _
      exact ht h3
theorem row_keep {w w' : World} {B : Nat} {t : TypeId} {m : Nat} {v : Value} {n : Nat} {c : List Value} (h : w.ownsRow B t m v n c) (hb : ∀ g, g < w.heap.size → v.ownBlock = some g → w'.heap[g]? = w.heap[g]?) : w'.ownsRow B t m v n c := by
  refine ⟨h.1, ?_⟩
  rcases h.2 with h2 | ⟨g1, cap, cur, rfl, h3, hc, r⟩
  · exact .inl h2
  · exact .inr ⟨g1, cap, cur, rfl, h3, (hb g1 (Array.getElem?_eq_some_iff.1 hc).1 rfl).trans hc, r⟩
/-- Just the own row of v has turned. -/
def Lone (v : Value) (w w' : World) : Prop := w.heap.size ≤ w'.heap.size ∧ ∀ g, g < w.heap.size → v.ownBlock ≠ some g → w'.heap[g]? = w.heap[g]?
theorem row_lone {w w' : World} {B B' : Nat} {t t' : TypeId} {m m' : Nat} {v v' : Value} {n n' : Nat} {c c' : List Value} (h : w.ownsRow B t m v n c) (h' : w.ownsRow B' t' m' v' n' c') (ht : t ≠ t') (hl : Lone v' w w') : w'.ownsRow B t m v n c :=
  row_keep h (fun g hg e => hl.2 g hg (row_apart h h' ht e))
theorem Lone.set {a : Option Addr} {n cap g : Nat} (w : World) (j : Nat) (x : Value) (ha : a = some ⟨g, 0, none⟩) : Lone (.slice a n cap) w (w.setCell ⟨g, j, none⟩ x) := by
  subst ha
  exact ⟨by simp, fun k hk hne => Below.heap_setCell _ ⟨g, j, none⟩ _ _ (fun e => hne (by rw [e]; rfl))⟩
/-- The encodings of numbers, one after another. -/
def encL (M : List Int) : List Int := M.flatMap fun n => uintB n.toNat
theorem encL_app (A B : List Int) : encL (A ++ B) = encL A ++ encL B := by simp [encL]
theorem encL_one (n : Int) : encL [n] = uintB n.toNat := by simp [encL]
theorem encL_succ {M : List Int} {k : Nat} (h : k < M.length) : encL (M.take (k + 1)) = encL (M.take k) ++ uintB (M.getD k 0).toNat := by
  rw [take_snoc M k h, encL_app, encL_one]
/-- Numbers of a valid summary. -/
def Small9 (M : List Int) : Prop := ∀ n ∈ M, 0 ≤ n ∧ n ≤ 1099511627776
theorem Small9.at_ {M : List Int} (h : Small9 M) (k : Nat) : 0 ≤ M.getD k 0 ∧ M.getD k 0 ≤ 1099511627776 := by
  by_cases hk : k < M.length
  · have := h M[k] (List.getElem_mem hk)
    simpa [List.getD, hk] using this
  · have e : M.getD k 0 = 0 := by simp [List.getD, List.getElem?_eq_none (Nat.le_of_not_lt hk)]
    rw [e]; omega
theorem Small9.take {M : List Int} (h : Small9 M) (k : Nat) : Small9 (M.take k) := fun n hn => h n (List.mem_of_mem_take hn)
theorem encL_len : ∀ {M : List Int}, Small9 M → (encL M).length ≤ 9 * M.length
  | [], _ => by simp [encL]
  | n :: M, h => by
    have h1 := encL_len (M := M) (fun m hm => h m (List.mem_cons_of_mem _ hm))
    have h2 := (uintB_len n.toNat (by have := h n List.mem_cons_self; omega)).2
    rw [show encL (n :: M) = uintB n.toNat ++ encL M by simp [encL], List.length_append, List.length_cons]
    omega
/-- The encoding of an entry, of entries. -/
def entB (x : Ent) : List Int := textB (byt x.k) ++ uintB x.c.toNat
def entsB (L : List Ent) : List Int := L.flatMap entB
theorem entsB_nil : entsB [] = [] := rfl
theorem entsB_succ {L : List Ent} {j : Nat} (h : j < L.length) : entsB (L.take (j + 1)) = entsB (L.take j) ++ entB (L.getD j Ent.z) := by
  rw [take_succE h]
  simp [entsB]
def hdB (S T K : Int) (s : Bool) (n : Nat) : List Int := uintB S.toNat ++ uintB T.toNat ++ uintB K.toNat ++ uintB (flagN s) ++ uintB n
/-- The encoding of a summary. -/
def codQ (S T K : Int) (L : List Ent) (s : Bool) : List Int := if valQ S T K L = 0 then hdB S T K s L.length ++ entsB L else []
theorem keyB_len {x : Ent} (h : keyB (byt x.k) = true) : (byt x.k).length ≤ 65536 := by
  unfold keyB at h
  simp only [Bool.and_eq_true, decide_eq_true_eq] at h
  omega
theorem entB_len {x : Ent} (h : keyB (byt x.k) = true) (c1 : x.c ≤ 1099511627776) : (entB x).length ≤ 65600 := by
  have hk := keyB_len h
  unfold entB textB
  rw [if_pos hk, List.length_append, List.length_append]
  have h1 := (uintB_len (byt x.k).length (by omega)).2
  have h2 := (uintB_len x.c.toNat (by omega)).2
  omega
theorem entsB_len : ∀ {L : List Ent}, (∀ x ∈ L, entQ x = 0) → (entsB L).length ≤ 65600 * L.length
  | [], _ => by simp [entsB]
  | x :: L, h => by
    have h1 := entsB_len (L := L) (fun y hy => h y (List.mem_cons_of_mem _ hy))
    have he := entQ_zero (h x List.mem_cons_self)
    have h2 := entB_len he.1 he.2.2.1
    rw [show entsB (x :: L) = entB x ++ entsB L by simp [entsB], List.length_append, List.length_cons]
    omega
theorem OwnI.five {a b c d e : Int} (ha : -9223372036854775808 ≤ a ∧ a ≤ 9223372036854775807) (hb : -9223372036854775808 ≤ b ∧ b ≤ 9223372036854775807) (hc : -9223372036854775808 ≤ c ∧ c ≤ 9223372036854775807) (hd : -9223372036854775808 ≤ d ∧ d ≤ 9223372036854775807) (he : -9223372036854775808 ≤ e ∧ e ≤ 9223372036854775807) (w : World) :
    OwnI w.heap.size [a, b, c, d, e] (.slice (some ⟨w.heap.size, 0, none⟩) 5 5) (w.alloc (.cells #[.int .i64 a, .int .i64 b, .int .i64 c, .int .i64 d, .int .i64 e] 3)) :=
  ⟨fun n hn => by simp at hn; rcases hn with rfl | rfl | rfl | rfl | rfl <;> assumption, rfl, .inr ⟨w.heap.size, 5, #[.int .i64 a, .int .i64 b, .int .i64 c, .int .i64 d, .int .i64 e], rfl, Nat.le_refl _, Go.heap_alloc_new w _, Nat.le_refl _, by decide, rfl, rfl⟩⟩
theorem OwnI.sole {a : Int} (ha : -9223372036854775808 ≤ a ∧ a ≤ 9223372036854775807) (w : World) :
    OwnI w.heap.size [a] (.slice (some ⟨w.heap.size, 0, none⟩) 1 1) (w.alloc (.cells #[.int .i64 a] 3)) :=
  ⟨fun n hn => by simp at hn; subst hn; assumption, rfl, .inr ⟨w.heap.size, 1, #[.int .i64 a], rfl, Nat.le_refl _, Go.heap_alloc_new w _, Nat.le_refl _, by decide, rfl, rfl⟩⟩
theorem At3.lone {x : Ent} {b : Nat} {v : Value} {w w' : World} (h : At3 x b 0 w) (hl : Lone v w w') (hne : ∀ g, v.ownBlock = some g → g < b) : At3 x b 0 w' := h.keep (hl.2 b h.lt (fun e => absurd (hne b e) (Nat.lt_irrefl b)))
/-- append, onto bytes of the call's own: just its own row turns. -/
theorem wp_appL8 {w : World} {ops : Array Oper} {rest : List Oper} {o : Oper} {a : Act} {Q : Exit → Act → World → Prop} (hgd : o.guard = none) (s x : Operand) (tx : TypeId)
    (ho : o.op = .call { callee := .builtin .append, args := #[s, x], argTypes := #[42, tx] }) (B : Nat) (L M : List Int) (v u : Value) (hs : a.eval s = v) (hx : a.eval x = u)
    (hown : Own B L v w) (hsrc : From M tx u w) (hB : B ≤ w.heap.size) (hn : L.length + M.length ≤ 140737488355328)
    (h : ∀ v' w', Own B (L ++ M) v' w' → Below B w w' → Lone v w w' → wpList Try.prog ops Q rest (a.put o.dst v') w') : wpList Try.prog ops Q (o :: rest) a w := by
  obtain ⟨i0, hi, hz0, hz1, hz2⟩ := info_parts info_u8
  refine wpList_own_src w hgd s x 42 tx ho B 5 i0 (.int .u8 0) 1 1 Try.underlying42 hi hz0 hz1 hz2 rfl (by decide) v L.length (cells8 L) hs hown.2 u M.length (cells8 M) hx hsrc.2 (by unfold maxLen; omega) (by omega) hB ?_
  intro v' w' h1 h2
  have hb := (Below.refl B w).grown h2 hB (fun k hk => (World.ownsRow.lt hown.2 k hk).1)
  refine h v' w' ⟨hown.1.app hsrc.1, ?_⟩ hb ⟨hb.size, fun g hg hne => h2.block g hg (Ne.symm hne)⟩
  rw [List.length_append, cells8_app]
  exact h1
theorem OwnI.lone {B B' : Nat} {M L : List Int} {u v : Value} {w w' : World} (h : OwnI B M u w) (ho : Own B' L v w) (hl : Lone v w w') : OwnI B M u w' := ⟨h.1, row_lone h.2 ho.2 (by decide) hl⟩
set_option maxRecDepth 100000 in
set_option maxHeartbeats 1000000 in
theorem auints9_any (B B2 : Nat) (A M : List Int) (v u : Value) (w : World) (ho : Own B A v w) (hu : OwnI B2 M u w) (hM : Small9 M) (hB : B ≤ w.heap.size) (hA : A.length ≤ 10000000) (hm : M.length ≤ 1000) :
    Calls Try.prog 41 #[v, u] w fun e w' => ∃ v', e = .returned v' ∧ Own B (A ++ encL M) v' w' ∧ Below B w w' := by
  obtain ⟨a, cap, rfl⟩ := hu.rd.shape
  have HM := Lib.hid hM
  have HS := Lib.hid (fun k (h : k < M.length) => encL_succ h)
  have HT := Lib.hid (show M.take M.length = M from List.take_length)
  have HI0 : Hid (Own B (A ++ encL (M.take 0)) v w ∧ OwnI B2 M (.slice a M.length cap) w ∧ Below B w w) := Lib.hid ⟨by rw [List.take_zero]; simpa [encL] using ho, hu, Below.refl _ _⟩
  have HB := Lib.hid hB
  clear hu hM ho hB
  go_enter Try.func41, Try.ntmps41
  go_wp2
  go_loopw [0, 6, 7, 8, 11] (fun b _ _ _ i wr => ∃ k : Nat, k ≤ M.length ∧ i = .int .i64 (k : Int) ∧ Hid (Own B (A ++ encL (M.take k)) b wr ∧ OwnI B2 M (.slice a M.length cap) wr ∧ Below B w wr)) (fun _ _ _ _ i _ => M.length - (intOf i).toNat)
  case atStart => exact ⟨0, by omega, rfl, HI0⟩
  case round =>
    clear HI0
    obtain ⟨k, hk, rfl, HI⟩ := hrel
    by_cases hlt : k < M.length
    · obtain ⟨g, rfl, -, -, hc, -⟩ := HI.out.2.1.cells (by omega)
      have hck := (hc k hlt).1
      have hlt2 : (k : Int) < (M.length : Int) := by omega
      have hmI : (M.length : Int) ≤ 1000 := by omega
      have hz := HM.out.at_ k
      have hel := encL_len (HM.out.take k)
      have hsl : (M.take k).length ≤ 1000 := by rw [List.length_take]; omega
      have HSS := Lib.hid (HS.out k hlt)
      obtain ⟨z, hz1⟩ : ∃ z : Nat, M.getD k 0 = (z : Int) := ⟨(M.getD k 0).toNat, by omega⟩
      rw [hz1] at hck hz HSS
      rw [Int.toNat_natCast] at HSS
      have HE := Lib.hid (fun w => k_uint z (by omega) w)
      have hzl := (uintB_len z (by omega)).2
      have HLN : Hid ((A ++ encL (M.take k)).length + (uintB z).length ≤ 140737488355328) := Lib.hid (by rw [List.length_append]; omega)
      have HO := Lib.hid HI.out.1
      have HN := Lib.hid HI.out.2.1
      have HBW := Lib.hid HI.out.2.2
      have HWS := Lib.hid (Nat.le_trans HB.out HBW.out.size)
      clear hz1 HS hc HI hz hel hsl hzl
      generalize uintB z = Z at *
      go_wp2_with (first
        | (go_at_call 59; (with_reducible refine (HE.out _).mono ?_); rintro e w3 ⟨v3, rfl, ho3, hb3⟩; have HO3 := Lib.hid (HO.out.below hb3); have HN3 := Lib.hid (HN.out.below hb3); have HR3 := Lib.hid ho3.rd.src; have HS3 := Lib.hid (Nat.le_trans HWS.out hb3.size); have HB3 := Lib.hid (HBW.out.trans (hb3.mono HWS.out)); clear ho3 hb3)
        | (at_builtin; refine wp_appL8 rfl _ _ _ rfl B (A ++ encL (M.take k)) Z _ _ rfl rfl HO3.out HR3.out HS3.out HLN.out ?_; (intro v4 w4 ho4 hb4 hl4; have HO4 : Hid (Own B (A ++ encL (M.take (k + 1))) v4 w4) := Lib.hid (by rw [HSS.out, ← List.append_assoc]; exact ho4); have HN4 := Lib.hid (HN3.out.lone HO3.out hl4); have HB4 := Lib.hid (HB3.out.trans hb4); clear ho4 hb4 hl4 HO3 HN3 HR3 HS3 HB3)))
      exact ⟨⟨k + 1, by omega, by go_num, Lib.hid ⟨HO4.out, HN4.out, HB4.out⟩⟩, by simp [intOf]; omega⟩
    · obtain rfl : k = M.length := by omega
      have hnlt : ¬ (M.length : Int) < (M.length : Int) := by omega
      have HO := Lib.hid HI.out.1
      have HB2 := Lib.hid HI.out.2.2
      rw [HT.out] at HO
      clear HI
      go_wp2
      go_ret
      exact ⟨_, rfl, HO.out, HB2.out⟩
set_option maxRecDepth 100000 in
set_option maxHeartbeats 4000000 in
theorem pencQ_any (S T K : Int) (L : List Ent) (s : Bool) (a : Option Addr) (n cap : Nat) (w : World) (hr : RdE L (.slice a n cap) w) (hn : L.length ≤ 549755813888) :
    Calls Try.prog 21 #[.agg #[.int .i64 S, .int .i64 T, .int .i64 K, .slice a n cap, .bool s]] w fun e w' => ∃ v, e = .returned (.tuple #[v, .int .i64 (valQ S T K L)]) ∧ Own w.heap.size (codQ S T K L s) v w' ∧ Below w.heap.size w w' := by
  obtain ⟨a', cap', he⟩ := hr.shape
  simp only [Value.slice.injEq] at he
  obtain ⟨rfl, rfl, rfl⟩ := he
  have hy := hr.1
  have HR := Lib.hid hr
  have HV := Lib.hid (fun (w' : World) (hb : Below w.heap.size w w') => pvalQ_any S T K L s a L.length cap w' (hr.below hb) hn)
  have C0 := Lib.hid (FqS.new S T K (.slice a L.length cap) s 25 w)
  have B0 := Lib.hid (b1 (a := w) (.cells #[.int .i64 S, .int .i64 T, .int .i64 K, .slice a L.length cap, .bool s] 25))
  clear hr
  unfold codQ
  by_cases hE : valQ S T K L = 0
  · rw [if_pos hE]
    have hval := valQ_ok hE
    rw [hE] at HV ⊢
    have hs0 := hval.s0
    have hs1 := hval.s1
    have ht0 := hval.t0
    have ht1 := hval.t1
    have hk0 := hval.k0
    have hk1 := hval.k1
    have hsm := hval.small
    have HEN := Lib.hid (fun i (hi : i < L.length) => entQ_zero (hval.ent i hi))
    have hall : ∀ x ∈ L, entQ x = 0 := fun x hx => by
      obtain ⟨i, hi, rfl⟩ := List.mem_iff_getElem.1 hx
      have := hval.ent i hi
      simpa [List.getD, hi] using this
    have HBL := Lib.hid (fun k => entsB_len (L := L.take k) (fun x hx => hall x (List.mem_of_mem_take hx)))
    have HSU := Lib.hid (fun k (h : k < L.length) => entsB_succ h)
    have HT := Lib.hid (show L.take L.length = L from List.take_length)
    have hhd : (hdB S T K s L.length).length ≤ 50 := by
      unfold hdB
      have h1 := (uintB_len S.toNat (by omega)).2
      have h2 := (uintB_len T.toNat (by omega)).2
      have h5 := (uintB_len K.toNat (by omega)).2
      have h3 := (uintB_len (flagN s) (by unfold flagN; split <;> omega)).2
      have h4 := (uintB_len L.length (by omega)).2
      simp only [List.length_append]
      omega
    have HHD : Hid (∀ f : Int, f = (flagN s : Int) → encL [S, T, K, f, (L.length : Int)] = hdB S T K s L.length) := Lib.hid (fun f hf => by subst hf; simp [encL, hdB])
    obtain ⟨hd, hhde⟩ : ∃ hd, hd = hdB S T K s L.length := ⟨_, rfl⟩
    rw [← hhde] at hhd HHD ⊢
    have HHL := Lib.hid hhd
    clear hE hval hall hhd hhde
    cases s
    · have HHE : Hid (encL [S, T, K, 0, (L.length : Int)] = hd) := Lib.hid (HHD.out 0 (by decide))
      clear HHD
      go_enter Try.func21, Try.ntmps21
      go_wp2_with (go_at_call 16; (with_reducible refine (HV.out _ B0.out).mono ?_); rintro e w2 ⟨rfl, hb2⟩; have B2 := Lib.hid (bgo B0.out hb2); have C2 := Lib.hid (C0.out.below hb2 C0.out.lt); obtain ⟨⟨p0, p1, p2, p3, p4⟩, -⟩ := C2.out; clear hb2)
      have N2 := Lib.hid (OwnI.five (a := S) (b := T) (c := K) (d := 0) (e := (L.length : Int)) (by omega) (by omega) (by omega) (by omega) (by omega) w2)
      have Z2 : Hid (w.heap.size + 1 ≤ (w2.alloc (.cells #[.int .i64 S, .int .i64 T, .int .i64 K, .int .i64 0, .int .i64 (L.length : Int)] 3)).heap.size) := Lib.hid (by have := C2.out.lt; simp; omega)
      have M2 : Hid (Small9 [S, T, K, 0, (L.length : Int)]) := Lib.hid (fun n hn => by simp at hn; omega)
      go_at_call 41
      refine (auints9_any (w.heap.size + 1) w2.heap.size [] [S, T, K, 0, (L.length : Int)] _ _ _ (Own.empty _ _) N2.out M2.out Z2.out (by simp) (by simp)).mono ?_
      rintro e w3 ⟨v3, rfl, ho3, hb3⟩
      rw [List.nil_append, HHE.out] at ho3
      have C3 := Lib.hid ((C2.out.below (b1 (.cells #[.int .i64 S, .int .i64 T, .int .i64 K, .int .i64 0, .int .i64 (L.length : Int)] 3)) C2.out.lt).below hb3 (Nat.lt_succ_self _))
      have B3 := Lib.hid ((bal B2.out (.cells #[.int .i64 S, .int .i64 T, .int .i64 K, .int .i64 0, .int .i64 (L.length : Int)] 3)).trans (hb3.mono (Nat.le_succ _)))
      have HI : Hid (Own (w.heap.size + 1) (hd ++ entsB (L.take 0)) v3 w3 ∧ FqS w.heap.size S T K (.slice a L.length cap) false w3 ∧ Below w.heap.size w w3) := Lib.hid ⟨by rw [List.take_zero, entsB_nil, List.append_nil]; exact ho3, C3.out, B3.out⟩
      clear ho3 hb3 N2 Z2 M2 B2 C2 p0 p1 p2 p3 p4 HV C0 B0
      obtain ⟨⟨p0, p1, p2, p3, p4⟩, -⟩ := C3.out
      go_wp2
      clear p0 p1 p2 p3 p4 C3 B3
      go_loopw [6, 8, 9, 10, 33] (fun b _ _ _ i wr => ∃ k : Nat, k ≤ L.length ∧ i = .int .i64 (k : Int) ∧ Hid (Own (w.heap.size + 1) (hd ++ entsB (L.take k)) b wr ∧ FqS w.heap.size S T K (.slice a L.length cap) false wr ∧ Below w.heap.size w wr)) (fun _ _ _ _ i _ => L.length - (intOf i).toNat)
      case atStart => exact ⟨0, by omega, rfl, HI⟩
      case round =>
        clear HI
        obtain ⟨k, hk, rfl, HI⟩ := hrel
        by_cases hlt : k < L.length
        · obtain ⟨-, a1, cap1, he1, -, -, hc1⟩ := HR.out.below HI.out.2.2
          simp only [Value.slice.injEq, true_and] at he1
          obtain ⟨rfl, rfl⟩ := he1
          obtain ⟨b, off, rfl, hb, hcell⟩ := hc1 (by omega)
          obtain ⟨c0, c1, c2⟩ := hcell k hlt
          have hlt2 : (k : Int) < (L.length : Int) := by omega
          have hlL : (L.length : Int) ≤ 32 := by omega
          have hen := HEN.out k hlt
          have hox := hy.at_ k
          have hbl := HBL.out k
          have hkl : (L.take k).length ≤ 32 := by rw [List.length_take]; omega
          have HSS := Lib.hid (HSU.out k hlt)
          have hhl := HHL.out
          clear hc1 hcell hb
          generalize L.getD k Ent.z = X at *
          have hkb := keyB_len hen.1
          have hte : textE (byt X.k) = 0 := by unfold textE; rw [if_pos hkb]
          have htx : (textB (byt X.k)).length ≤ 65560 := by
            unfold textB
            rw [if_pos hkb, List.length_append]
            have := (uintB_len (byt X.k).length (by omega)).2
            omega
          have HTX := Lib.hid (fun w => encText_any X.k w hox.1)
          rw [hte] at HTX
          have HEB : Hid (entB X = textB (byt X.k) ++ encL [X.c]) := Lib.hid (by simp [entB, encL])
          have HLN : Hid ((hd ++ entsB (L.take k)).length + (textB (byt X.k)).length ≤ 140737488355328) := Lib.hid (by rw [List.length_append]; omega)
          have HLN2 : Hid ((hd ++ entsB (L.take k) ++ textB (byt X.k)).length ≤ 10000000) := Lib.hid (by rw [List.length_append, List.length_append]; omega)
          have HCE := Lib.hid (⟨by omega, by omega, by omega, by omega⟩ : 0 ≤ X.c ∧ X.c ≤ 1099511627776 ∧ 0 ≤ X.e ∧ X.e ≤ 1099511627776)
          generalize textB (byt X.k) = TB at *
          have A1 := Lib.hid (At3.new X wr)
          have O1 := Lib.hid (HI.out.1.alloc (.cells #[.string X.k, .int .i64 X.c, .int .i64 X.e] 49))
          have C1 := Lib.hid (HI.out.2.1.below (b1 (.cells #[.string X.k, .int .i64 X.c, .int .i64 X.e] 49)) HI.out.2.1.lt)
          have B1 := Lib.hid (bal HI.out.2.2 (.cells #[.string X.k, .int .i64 X.c, .int .i64 X.e] 49))
          have K1 := Lib.hid (fun g e => (World.ownsRow.lt HI.out.1.2 g e).2)
          clear HI hen hox hbl hkl hte htx hkb HEN HBL HSU
          go_wp2_with (first
            | (go_at_call 42; (with_reducible refine (HTX.out _).mono ?_); rintro e w4 ⟨v4, rfl, ho4, hb4⟩; have O4 := Lib.hid (O1.out.below hb4); have R4 := Lib.hid ho4.rd.src; have C4 := Lib.hid (C1.out.below hb4 C1.out.lt); have B4 := Lib.hid (bgo B1.out hb4); have A4 := Lib.hid (A1.out.go hb4); have Z4 : Hid (w.heap.size + 1 ≤ w4.heap.size) := Lib.hid C4.out.lt; clear ho4 hb4 O1 C1 B1 A1)
            | (at_builtin; refine wp_appL8 rfl _ _ _ rfl (w.heap.size + 1) (hd ++ entsB (L.take k)) TB _ _ rfl rfl O4.out R4.out Z4.out HLN.out ?_; (intro v5 w5 ho5 hb5 hl5; have O5 := Lib.hid ho5; have C5 := Lib.hid (C4.out.below hb5 (Nat.lt_succ_self _)); have B5 := Lib.hid (B4.out.trans (hb5.mono (Nat.le_succ _))); have A5 := Lib.hid (A4.out.lone hl5 K1.out); obtain ⟨x0, x1, x2⟩ := A5.out.zero; clear ho5 hb5 hl5 O4 C4 B4 A4 R4 Z4)))
          have N5 := Lib.hid (OwnI.sole (a := X.c) (by have := HCE.out; omega) w5)
          have Z5 : Hid (w.heap.size + 1 ≤ (w5.alloc (.cells #[.int .i64 X.c] 3)).heap.size) := Lib.hid (by have := C5.out.lt; simp; omega)
          have M5 : Hid (Small9 [X.c]) := Lib.hid (fun n hn => by have := HCE.out; simp at hn; omega)
          go_at_call 41
          refine (auints9_any (w.heap.size + 1) w5.heap.size (hd ++ entsB (L.take k) ++ TB) [X.c] _ _ _ (O5.out.alloc _) N5.out M5.out Z5.out HLN2.out (by simp)).mono ?_
          rintro e w6 ⟨v6, rfl, ho6, hb6⟩
          have O6 : Hid (Own (w.heap.size + 1) (hd ++ entsB (L.take (k + 1))) v6 w6) := Lib.hid (by rw [HSS.out, HEB.out]; simpa only [List.append_assoc] using ho6)
          have C6 := Lib.hid ((C5.out.below (b1 (.cells #[.int .i64 X.c] 3)) C5.out.lt).below hb6 (Nat.lt_succ_self _))
          have B6 := Lib.hid ((bal B5.out (.cells #[.int .i64 X.c] 3)).trans (hb6.mono (Nat.le_succ _)))
          clear ho6 hb6 O5 C5 B5 A5 N5 Z5 M5 x0 x1 x2
          go_wp2
          exact ⟨⟨k + 1, by omega, by go_num, Lib.hid ⟨O6.out, C6.out, B6.out⟩⟩, by simp [intOf]; omega⟩
        · obtain rfl : k = L.length := by omega
          have hnlt : ¬ (L.length : Int) < (L.length : Int) := by omega
          have O6 := Lib.hid HI.out.1
          have B6 := Lib.hid HI.out.2.2
          rw [HT.out] at O6
          clear HI
          go_wp2
          go_ret2
          exact ⟨_, rfl, O6.out.mono (Nat.le_succ _), B6.out⟩
    · have HHE : Hid (encL [S, T, K, 1, (L.length : Int)] = hd) := Lib.hid (HHD.out 1 (by decide))
      clear HHD
      go_enter Try.func21, Try.ntmps21
      go_wp2_with (go_at_call 16; (with_reducible refine (HV.out _ B0.out).mono ?_); rintro e w2 ⟨rfl, hb2⟩; have B2 := Lib.hid (bgo B0.out hb2); have C2 := Lib.hid (C0.out.below hb2 C0.out.lt); obtain ⟨⟨p0, p1, p2, p3, p4⟩, -⟩ := C2.out; clear hb2)
      have N2 := Lib.hid (OwnI.five (a := S) (b := T) (c := K) (d := 1) (e := (L.length : Int)) (by omega) (by omega) (by omega) (by omega) (by omega) w2)
      have Z2 : Hid (w.heap.size + 1 ≤ (w2.alloc (.cells #[.int .i64 S, .int .i64 T, .int .i64 K, .int .i64 1, .int .i64 (L.length : Int)] 3)).heap.size) := Lib.hid (by have := C2.out.lt; simp; omega)
      have M2 : Hid (Small9 [S, T, K, 1, (L.length : Int)]) := Lib.hid (fun n hn => by simp at hn; omega)
      go_at_call 41
      refine (auints9_any (w.heap.size + 1) w2.heap.size [] [S, T, K, 1, (L.length : Int)] _ _ _ (Own.empty _ _) N2.out M2.out Z2.out (by simp) (by simp)).mono ?_
      rintro e w3 ⟨v3, rfl, ho3, hb3⟩
      rw [List.nil_append, HHE.out] at ho3
      have C3 := Lib.hid ((C2.out.below (b1 (.cells #[.int .i64 S, .int .i64 T, .int .i64 K, .int .i64 1, .int .i64 (L.length : Int)] 3)) C2.out.lt).below hb3 (Nat.lt_succ_self _))
      have B3 := Lib.hid ((bal B2.out (.cells #[.int .i64 S, .int .i64 T, .int .i64 K, .int .i64 1, .int .i64 (L.length : Int)] 3)).trans (hb3.mono (Nat.le_succ _)))
      have HI : Hid (Own (w.heap.size + 1) (hd ++ entsB (L.take 0)) v3 w3 ∧ FqS w.heap.size S T K (.slice a L.length cap) true w3 ∧ Below w.heap.size w w3) := Lib.hid ⟨by rw [List.take_zero, entsB_nil, List.append_nil]; exact ho3, C3.out, B3.out⟩
      clear ho3 hb3 N2 Z2 M2 B2 C2 p0 p1 p2 p3 p4 HV C0 B0
      obtain ⟨⟨p0, p1, p2, p3, p4⟩, -⟩ := C3.out
      go_wp2
      clear p0 p1 p2 p3 p4 C3 B3
      go_loopw [6, 8, 9, 10, 33] (fun b _ _ _ i wr => ∃ k : Nat, k ≤ L.length ∧ i = .int .i64 (k : Int) ∧ Hid (Own (w.heap.size + 1) (hd ++ entsB (L.take k)) b wr ∧ FqS w.heap.size S T K (.slice a L.length cap) true wr ∧ Below w.heap.size w wr)) (fun _ _ _ _ i _ => L.length - (intOf i).toNat)
      case atStart => exact ⟨0, by omega, rfl, HI⟩
      case round =>
        clear HI
        obtain ⟨k, hk, rfl, HI⟩ := hrel
        by_cases hlt : k < L.length
        · obtain ⟨-, a1, cap1, he1, -, -, hc1⟩ := HR.out.below HI.out.2.2
          simp only [Value.slice.injEq, true_and] at he1
          obtain ⟨rfl, rfl⟩ := he1
          obtain ⟨b, off, rfl, hb, hcell⟩ := hc1 (by omega)
          obtain ⟨c0, c1, c2⟩ := hcell k hlt
          have hlt2 : (k : Int) < (L.length : Int) := by omega
          have hlL : (L.length : Int) ≤ 32 := by omega
          have hen := HEN.out k hlt
          have hox := hy.at_ k
          have hbl := HBL.out k
          have hkl : (L.take k).length ≤ 32 := by rw [List.length_take]; omega
          have HSS := Lib.hid (HSU.out k hlt)
          have hhl := HHL.out
          clear hc1 hcell hb
          generalize L.getD k Ent.z = X at *
          have hkb := keyB_len hen.1
          have hte : textE (byt X.k) = 0 := by unfold textE; rw [if_pos hkb]
          have htx : (textB (byt X.k)).length ≤ 65560 := by
            unfold textB
            rw [if_pos hkb, List.length_append]
            have := (uintB_len (byt X.k).length (by omega)).2
            omega
          have HTX := Lib.hid (fun w => encText_any X.k w hox.1)
          rw [hte] at HTX
          have HEB : Hid (entB X = textB (byt X.k) ++ encL [X.c]) := Lib.hid (by simp [entB, encL])
          have HLN : Hid ((hd ++ entsB (L.take k)).length + (textB (byt X.k)).length ≤ 140737488355328) := Lib.hid (by rw [List.length_append]; omega)
          have HLN2 : Hid ((hd ++ entsB (L.take k) ++ textB (byt X.k)).length ≤ 10000000) := Lib.hid (by rw [List.length_append, List.length_append]; omega)
          have HCE := Lib.hid (⟨by omega, by omega, by omega, by omega⟩ : 0 ≤ X.c ∧ X.c ≤ 1099511627776 ∧ 0 ≤ X.e ∧ X.e ≤ 1099511627776)
          generalize textB (byt X.k) = TB at *
          have A1 := Lib.hid (At3.new X wr)
          have O1 := Lib.hid (HI.out.1.alloc (.cells #[.string X.k, .int .i64 X.c, .int .i64 X.e] 49))
          have C1 := Lib.hid (HI.out.2.1.below (b1 (.cells #[.string X.k, .int .i64 X.c, .int .i64 X.e] 49)) HI.out.2.1.lt)
          have B1 := Lib.hid (bal HI.out.2.2 (.cells #[.string X.k, .int .i64 X.c, .int .i64 X.e] 49))
          have K1 := Lib.hid (fun g e => (World.ownsRow.lt HI.out.1.2 g e).2)
          clear HI hen hox hbl hkl hte htx hkb HEN HBL HSU
          go_wp2_with (first
            | (go_at_call 42; (with_reducible refine (HTX.out _).mono ?_); rintro e w4 ⟨v4, rfl, ho4, hb4⟩; have O4 := Lib.hid (O1.out.below hb4); have R4 := Lib.hid ho4.rd.src; have C4 := Lib.hid (C1.out.below hb4 C1.out.lt); have B4 := Lib.hid (bgo B1.out hb4); have A4 := Lib.hid (A1.out.go hb4); have Z4 : Hid (w.heap.size + 1 ≤ w4.heap.size) := Lib.hid C4.out.lt; clear ho4 hb4 O1 C1 B1 A1)
            | (at_builtin; refine wp_appL8 rfl _ _ _ rfl (w.heap.size + 1) (hd ++ entsB (L.take k)) TB _ _ rfl rfl O4.out R4.out Z4.out HLN.out ?_; (intro v5 w5 ho5 hb5 hl5; have O5 := Lib.hid ho5; have C5 := Lib.hid (C4.out.below hb5 (Nat.lt_succ_self _)); have B5 := Lib.hid (B4.out.trans (hb5.mono (Nat.le_succ _))); have A5 := Lib.hid (A4.out.lone hl5 K1.out); obtain ⟨x0, x1, x2⟩ := A5.out.zero; clear ho5 hb5 hl5 O4 C4 B4 A4 R4 Z4)))
          have N5 := Lib.hid (OwnI.sole (a := X.c) (by have := HCE.out; omega) w5)
          have Z5 : Hid (w.heap.size + 1 ≤ (w5.alloc (.cells #[.int .i64 X.c] 3)).heap.size) := Lib.hid (by have := C5.out.lt; simp; omega)
          have M5 : Hid (Small9 [X.c]) := Lib.hid (fun n hn => by have := HCE.out; simp at hn; omega)
          go_at_call 41
          refine (auints9_any (w.heap.size + 1) w5.heap.size (hd ++ entsB (L.take k) ++ TB) [X.c] _ _ _ (O5.out.alloc _) N5.out M5.out Z5.out HLN2.out (by simp)).mono ?_
          rintro e w6 ⟨v6, rfl, ho6, hb6⟩
          have O6 : Hid (Own (w.heap.size + 1) (hd ++ entsB (L.take (k + 1))) v6 w6) := Lib.hid (by rw [HSS.out, HEB.out]; simpa only [List.append_assoc] using ho6)
          have C6 := Lib.hid ((C5.out.below (b1 (.cells #[.int .i64 X.c] 3)) C5.out.lt).below hb6 (Nat.lt_succ_self _))
          have B6 := Lib.hid ((bal B5.out (.cells #[.int .i64 X.c] 3)).trans (hb6.mono (Nat.le_succ _)))
          clear ho6 hb6 O5 C5 B5 A5 N5 Z5 M5 x0 x1 x2
          go_wp2
          exact ⟨⟨k + 1, by omega, by go_num, Lib.hid ⟨O6.out, C6.out, B6.out⟩⟩, by simp [intOf]; omega⟩
        · obtain rfl : k = L.length := by omega
          have hnlt : ¬ (L.length : Int) < (L.length : Int) := by omega
          have O6 := Lib.hid HI.out.1
          have B6 := Lib.hid HI.out.2.2
          rw [HT.out] at O6
          clear HI
          go_wp2
          go_ret2
          exact ⟨_, rfl, O6.out.mono (Nat.le_succ _), B6.out⟩
  · rw [if_neg hE]
    have hE2 : (valQ S T K L != 0) = true := by simpa using hE
    generalize valQ S T K L = E at *
    clear hE
    go_enter Try.func21, Try.ntmps21
    go_wp2_with (go_at_call 16; (with_reducible refine (HV.out _ B0.out).mono ?_); rintro e w2 ⟨rfl, hb2⟩; have B2 := Lib.hid (bgo B0.out hb2); clear hb2)
    go_ret2
    exact ⟨_, rfl, Own.empty _ _, B2.out⟩
end Go.Proofs.Ytmmdnomfpfcjiaa
