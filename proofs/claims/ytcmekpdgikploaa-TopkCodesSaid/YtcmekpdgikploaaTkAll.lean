/- TkCod, TkUints, TkEnc, RTkEnc, TkRdr, RTxt, TkDecN, TkDec, RTkDec: in one text. -/
import Derived.Test.YtcmekpdgikploaaVtR
import Derived.Test.YtcmekpdgikploaaTallyEnc
import Derived.Test.YtcmekpdgikploaaPVal
import Derived.Test.YtcmekpdgikploaaRValT
import Derived.Test.YtcmekpdgikploaaMeetX
import Derived.Test.YtcmekpdgikploaaOthI
import Derived.Test.YtcmekpdgikploaaRdrN
import Derived.Test.YtcmekpdgikploaaWires
import Derived.Test.YtcmekpdgikploaaWireFacts
import Derived.Deep.Cut
import Derived.Deep.RegionHeld3
import Derived.Deep.RegionLaw
namespace Go.Proofs.Ytcmekpdgikploaa
open Go.RowKit
set_option linter.unusedVariables false
set_option linter.unusedSimpArgs false
/-- The encodings of numbers, one after another. -/
def encL (M : List Int) : List Int := M.flatMap fun n => uintB n.toNat
theorem encL_app (A B : List Int) : encL (A ++ B) = encL A ++ encL B := by simp [encL]
theorem encL_one (n : Int) : encL [n] = uintB n.toNat := by simp [encL]
theorem encL_succ {M : List Int} {k : Nat} (h : k < M.length) : encL (M.take (k + 1)) = encL (M.take k) ++ uintB (M.getD k 0).toNat := by
  rw [take_snoc M k h, encL_app, encL_one]
/-- Numbers of a valid summary. -/
def Small9 (M : List Int) : Prop := ∀ n ∈ M, 0 ≤ n ∧ n ≤ 1099511627776
theorem Small9.at_ {M : List Int} (h : Small9 M) (k : Nat) : 0 ≤ M.getD k 0 ∧ M.getD k 0 ≤ 1099511627776 := by
  by_cases hk : k < M.length
  · have := h M[k] (List.getElem_mem hk)
    simpa [List.getD, hk] using this
  · have e : M.getD k 0 = 0 := by simp [List.getD, List.getElem?_eq_none (Nat.le_of_not_lt hk)]
    rw [e]; omega
theorem Small9.take {M : List Int} (h : Small9 M) (k : Nat) : Small9 (M.take k) := fun n hn => h n (List.mem_of_mem_take hn)
theorem encL_len : ∀ {M : List Int}, Small9 M → (encL M).length ≤ 9 * M.length
  | [], _ => by simp [encL]
  | n :: M, h => by
    have h1 := encL_len (M := M) (fun m hm => h m (List.mem_cons_of_mem _ hm))
    have h2 := (uintB_len n.toNat (by have := h n List.mem_cons_self; omega)).2
    rw [show encL (n :: M) = uintB n.toNat ++ encL M by simp [encL], List.length_append, List.length_cons]
    omega
/-- The encoding of an entry, of entries. -/
def entB (x : Ent) : List Int := textB (byt x.k) ++ uintB x.c.toNat ++ uintB x.e.toNat
def entsB (L : List Ent) : List Int := L.flatMap entB
theorem entsB_nil : entsB [] = [] := rfl
theorem entsB_succ {L : List Ent} {j : Nat} (h : j < L.length) : entsB (L.take (j + 1)) = entsB (L.take j) ++ entB (L.getD j Ent.z) := by
  rw [take_succE h]
  simp [entsB]
def hdB (S T : Int) (s : Bool) (n : Nat) : List Int := uintB S.toNat ++ uintB T.toNat ++ uintB (flagN s) ++ uintB n
/-- The encoding of a summary. -/
def cod9 (S T : Int) (L : List Ent) (s : Bool) : List Int := if valE S T L = 0 then hdB S T s L.length ++ entsB L else []
theorem keyB_len {x : Ent} (h : keyB (byt x.k) = true) : (byt x.k).length ≤ 65536 := by
  unfold keyB at h
  simp only [Bool.and_eq_true, decide_eq_true_eq] at h
  omega
theorem entB_len {x : Ent} (h : keyB (byt x.k) = true) (c1 : x.c ≤ 1099511627776) (e1 : x.e ≤ 1099511627776) : (entB x).length ≤ 65600 := by
  have hk := keyB_len h
  unfold entB textB
  rw [if_pos hk, List.length_append, List.length_append, List.length_append]
  have h1 := (uintB_len (byt x.k).length (by omega)).2
  have h2 := (uintB_len x.c.toNat (by omega)).2
  have h3 := (uintB_len x.e.toNat (by omega)).2
  omega
theorem entsB_len : ∀ {L : List Ent}, (∀ x ∈ L, entE x = 0) → (entsB L).length ≤ 65600 * L.length
  | [], _ => by simp [entsB]
  | x :: L, h => by
    have h1 := entsB_len (L := L) (fun y hy => h y (List.mem_cons_of_mem _ hy))
    have he := entE_zero (h x List.mem_cons_self)
    have h2 := entB_len he.1 he.2.2.1 (by omega)
    rw [show entsB (x :: L) = entB x ++ entsB L by simp [entsB], List.length_append, List.length_cons]
    omega
theorem OwnI.four {a b c d : Int} (ha : -9223372036854775808 ≤ a ∧ a ≤ 9223372036854775807) (hb : -9223372036854775808 ≤ b ∧ b ≤ 9223372036854775807) (hc : -9223372036854775808 ≤ c ∧ c ≤ 9223372036854775807) (hd : -9223372036854775808 ≤ d ∧ d ≤ 9223372036854775807) (w : World) :
    OwnI w.heap.size [a, b, c, d] (.slice (some ⟨w.heap.size, 0, none⟩) 4 4) (w.alloc (.cells #[.int .i64 a, .int .i64 b, .int .i64 c, .int .i64 d] 3)) :=
  ⟨fun n hn => by simp at hn; rcases hn with rfl | rfl | rfl | rfl <;> assumption, rfl, .inr ⟨w.heap.size, 4, #[.int .i64 a, .int .i64 b, .int .i64 c, .int .i64 d], rfl, Nat.le_refl _, Go.heap_alloc_new w _, Nat.le_refl _, by decide, rfl, rfl⟩⟩
theorem At3.lone {x : Ent} {b : Nat} {v : Value} {w w' : World} (h : At3 x b 0 w) (hl : Lone v w w') (hne : ∀ g, v.ownBlock = some g → g < b) : At3 x b 0 w' := h.keep (hl.2 b h.lt (fun e => absurd (hne b e) (Nat.lt_irrefl b)))
/-- append, onto bytes of the call's own: just its own row turns. -/
theorem wp_appL8 {w : World} {ops : Array Oper} {rest : List Oper} {o : Oper} {a : Act} {Q : Exit → Act → World → Prop} (hgd : o.guard = none) (s x : Operand) (tx : TypeId)
    (ho : o.op = .call { callee := .builtin .append, args := #[s, x], argTypes := #[42, tx] }) (B : Nat) (L M : List Int) (v u : Value) (hs : a.eval s = v) (hx : a.eval x = u)
    (hown : Own B L v w) (hsrc : From M tx u w) (hB : B ≤ w.heap.size) (hn : L.length + M.length ≤ 140737488355328)
    (h : ∀ v' w', Own B (L ++ M) v' w' → Below B w w' → Lone v w w' → wpList Try.prog ops Q rest (a.put o.dst v') w') : wpList Try.prog ops Q (o :: rest) a w := by
  obtain ⟨i0, hi, hz0, hz1, hz2⟩ := info_parts info_u8
  refine wpList_own_src w hgd s x 42 tx ho B 5 i0 (.int .u8 0) 1 1 Try.underlying42 hi hz0 hz1 hz2 rfl (by decide) v L.length (cells8 L) hs hown.2 u M.length (cells8 M) hx hsrc.2 (by unfold maxLen; omega) (by omega) hB ?_
  intro v' w' h1 h2
  have hb := (Below.refl B w).grown h2 hB (fun k hk => (World.ownsRow.lt hown.2 k hk).1)
  refine h v' w' ⟨hown.1.app hsrc.1, ?_⟩ hb ⟨hb.size, fun g hg hne => h2.block g hg (Ne.symm hne)⟩
  rw [List.length_append, cells8_app]
  exact h1
theorem OwnI.lone {B B' : Nat} {M L : List Int} {u v : Value} {w w' : World} (h : OwnI B M u w) (ho : Own B' L v w) (hl : Lone v w w') : OwnI B M u w' := ⟨h.1, row_lone h.2 ho.2 (by decide) hl⟩
set_option maxRecDepth 100000 in
set_option maxHeartbeats 1000000 in
theorem auints9_any (B B2 : Nat) (A M : List Int) (v u : Value) (w : World) (ho : Own B A v w) (hu : OwnI B2 M u w) (hM : Small9 M) (hB : B ≤ w.heap.size) (hA : A.length ≤ 10000000) (hm : M.length ≤ 1000) :
    Calls Try.prog 51 #[v, u] w fun e w' => ∃ v', e = .returned v' ∧ Own B (A ++ encL M) v' w' ∧ Below B w w' := by
  obtain ⟨a, cap, rfl⟩ := hu.rd.shape
  have HM := Lib.hid hM
  have HS := Lib.hid (fun k (h : k < M.length) => encL_succ h)
  have HT := Lib.hid (show M.take M.length = M from List.take_length)
  have HI0 : Hid (Own B (A ++ encL (M.take 0)) v w ∧ OwnI B2 M (.slice a M.length cap) w ∧ Below B w w) := Lib.hid ⟨by rw [List.take_zero]; simpa [encL] using ho, hu, Below.refl _ _⟩
  have HB := Lib.hid hB
  clear hu hM ho hB
  go_enter Try.func51, Try.ntmps51
  go_wp2
  go_loopw [0, 6, 7, 8, 11] (fun b _ _ _ i wr => ∃ k : Nat, k ≤ M.length ∧ i = .int .i64 (k : Int) ∧ Hid (Own B (A ++ encL (M.take k)) b wr ∧ OwnI B2 M (.slice a M.length cap) wr ∧ Below B w wr)) (fun _ _ _ _ i _ => M.length - (intOf i).toNat)
  case atStart => exact ⟨0, by omega, rfl, HI0⟩
  case round =>
    clear HI0
    obtain ⟨k, hk, rfl, HI⟩ := hrel
    by_cases hlt : k < M.length
    · obtain ⟨g, rfl, -, -, hc, -⟩ := HI.out.2.1.cells (by omega)
      have hck := (hc k hlt).1
      have hlt2 : (k : Int) < (M.length : Int) := by omega
      have hmI : (M.length : Int) ≤ 1000 := by omega
      have hz := HM.out.at_ k
      have hel := encL_len (HM.out.take k)
      have hsl : (M.take k).length ≤ 1000 := by rw [List.length_take]; omega
      have HSS := Lib.hid (HS.out k hlt)
      obtain ⟨z, hz1⟩ : ∃ z : Nat, M.getD k 0 = (z : Int) := ⟨(M.getD k 0).toNat, by omega⟩
      rw [hz1] at hck hz HSS
      rw [Int.toNat_natCast] at HSS
      have HE := Lib.hid (fun w => k_uint z (by omega) w)
      have hzl := (uintB_len z (by omega)).2
      have HLN : Hid ((A ++ encL (M.take k)).length + (uintB z).length ≤ 140737488355328) := Lib.hid (by rw [List.length_append]; omega)
      have HO := Lib.hid HI.out.1
      have HN := Lib.hid HI.out.2.1
      have HBW := Lib.hid HI.out.2.2
      have HWS := Lib.hid (Nat.le_trans HB.out HBW.out.size)
      clear hz1 HS hc HI hz hel hsl hzl
      generalize uintB z = Z at *
      go_wp2_with (first
        | (go_at_call 69; (with_reducible refine (HE.out _).mono ?_); rintro e w3 ⟨v3, rfl, ho3, hb3⟩; have HO3 := Lib.hid (HO.out.below hb3); have HN3 := Lib.hid (HN.out.below hb3); have HR3 := Lib.hid ho3.rd.src; have HS3 := Lib.hid (Nat.le_trans HWS.out hb3.size); have HB3 := Lib.hid (HBW.out.trans (hb3.mono HWS.out)); clear ho3 hb3)
        | (at_builtin; refine wp_appL8 rfl _ _ _ rfl B (A ++ encL (M.take k)) Z _ _ rfl rfl HO3.out HR3.out HS3.out HLN.out ?_; (intro v4 w4 ho4 hb4 hl4; have HO4 : Hid (Own B (A ++ encL (M.take (k + 1))) v4 w4) := Lib.hid (by rw [HSS.out, ← List.append_assoc]; exact ho4); have HN4 := Lib.hid (HN3.out.lone HO3.out hl4); have HB4 := Lib.hid (HB3.out.trans hb4); clear ho4 hb4 hl4 HO3 HN3 HR3 HS3 HB3)))
      exact ⟨⟨k + 1, by omega, by go_num, Lib.hid ⟨HO4.out, HN4.out, HB4.out⟩⟩, by simp [intOf]; omega⟩
    · obtain rfl : k = M.length := by omega
      have hnlt : ¬ (M.length : Int) < (M.length : Int) := by omega
      have HO := Lib.hid HI.out.1
      have HB2 := Lib.hid HI.out.2.2
      rw [HT.out] at HO
      clear HI
      go_wp2
      go_ret
      exact ⟨_, rfl, HO.out, HB2.out⟩
set_option maxRecDepth 100000 in
set_option maxHeartbeats 4000000 in
theorem penc_any (S T : Int) (L : List Ent) (s : Bool) (a : Option Addr) (n cap : Nat) (w : World) (S0 : -9223372036854775808 ≤ S) (S1 : S ≤ 9223372036854775807) (T0 : -9223372036854775808 ≤ T) (T1 : T ≤ 9223372036854775807) (hr : RdE L (.slice a n cap) w) (hn : L.length ≤ 549755813888) :
    Calls Try.prog 22 #[.agg #[.int .i64 S, .int .i64 T, .slice a n cap, .bool s]] w fun e w' => ∃ v, e = .returned (.tuple #[v, .int .i64 (valE S T L)]) ∧ Own w.heap.size (cod9 S T L s) v w' ∧ Below w.heap.size w w' := by
  obtain ⟨a', cap', he⟩ := hr.shape
  simp only [Value.slice.injEq] at he
  obtain ⟨rfl, rfl, rfl⟩ := he
  have hy := hr.1
  have HR := Lib.hid hr
  have HV := Lib.hid (fun (w' : World) (hb : Below w.heap.size w w') => pval_any S T L s a L.length cap w' S0 S1 T0 T1 (hr.below hb) hn)
  have C0 := Lib.hid (TopS.new S T (.slice a L.length cap) s 25 w)
  have B0 := Lib.hid (b1 (a := w) (.cells #[.int .i64 S, .int .i64 T, .slice a L.length cap, .bool s] 25))
  clear hr
  unfold cod9
  by_cases hE : valE S T L = 0
  · rw [if_pos hE]
    have hval := valE_ok hE
    rw [hE] at HV ⊢
    have hs0 := hval.s0
    have hs1 := hval.s1
    have ht0 := hval.t0
    have ht1 := hval.t1
    have hsm := hval.small
    have HEN := Lib.hid (fun i (hi : i < L.length) => entE_zero (hval.ent i hi))
    have hall : ∀ x ∈ L, entE x = 0 := fun x hx => by
      obtain ⟨i, hi, rfl⟩ := List.mem_iff_getElem.1 hx
      have := hval.ent i hi
      simpa [List.getD, hi] using this
    have HBL := Lib.hid (fun k => entsB_len (L := L.take k) (fun x hx => hall x (List.mem_of_mem_take hx)))
    have HSU := Lib.hid (fun k (h : k < L.length) => entsB_succ h)
    have HT := Lib.hid (show L.take L.length = L from List.take_length)
    have hhd : (hdB S T s L.length).length ≤ 40 := by
      unfold hdB
      have h1 := (uintB_len S.toNat (by omega)).2
      have h2 := (uintB_len T.toNat (by omega)).2
      have h3 := (uintB_len (flagN s) (by unfold flagN; split <;> omega)).2
      have h4 := (uintB_len L.length (by omega)).2
      simp only [List.length_append]
      omega
    have HHD : Hid (∀ f : Int, f = (flagN s : Int) → encL [S, T, f, (L.length : Int)] = hdB S T s L.length) := Lib.hid (fun f hf => by subst hf; simp [encL, hdB])
    obtain ⟨hd, hhde⟩ : ∃ hd, hd = hdB S T s L.length := ⟨_, rfl⟩
    rw [← hhde] at hhd HHD ⊢
    have HHL := Lib.hid hhd
    clear hE hval hall hhd hhde
    cases s
    · have HHE : Hid (encL [S, T, 0, (L.length : Int)] = hd) := Lib.hid (HHD.out 0 (by decide))
      clear HHD
      go_enter Try.func22, Try.ntmps22
      go_wp2_with (go_at_call 17; (with_reducible refine (HV.out _ B0.out).mono ?_); rintro e w2 ⟨rfl, hb2⟩; have B2 := Lib.hid (bgo B0.out hb2); have C2 := Lib.hid (C0.out.below hb2 C0.out.lt); obtain ⟨⟨p0, p1, p2, p3⟩, -⟩ := C2.out; clear hb2)
      have N2 := Lib.hid (OwnI.four (a := S) (b := T) (c := 0) (d := (L.length : Int)) (by omega) (by omega) (by omega) (by omega) w2)
      have Z2 : Hid (w.heap.size + 1 ≤ (w2.alloc (.cells #[.int .i64 S, .int .i64 T, .int .i64 0, .int .i64 (L.length : Int)] 3)).heap.size) := Lib.hid (by have := C2.out.lt; simp; omega)
      have M2 : Hid (Small9 [S, T, 0, (L.length : Int)]) := Lib.hid (fun n hn => by simp at hn; omega)
      go_at_call 51
      refine (auints9_any (w.heap.size + 1) w2.heap.size [] [S, T, 0, (L.length : Int)] _ _ _ (Own.empty _ _) N2.out M2.out Z2.out (by simp) (by simp)).mono ?_
      rintro e w3 ⟨v3, rfl, ho3, hb3⟩
      rw [List.nil_append, HHE.out] at ho3
      have C3 := Lib.hid ((C2.out.below (b1 (.cells #[.int .i64 S, .int .i64 T, .int .i64 0, .int .i64 (L.length : Int)] 3)) C2.out.lt).below hb3 (Nat.lt_succ_self _))
      have B3 := Lib.hid ((bal B2.out (.cells #[.int .i64 S, .int .i64 T, .int .i64 0, .int .i64 (L.length : Int)] 3)).trans (hb3.mono (Nat.le_succ _)))
      have HI : Hid (Own (w.heap.size + 1) (hd ++ entsB (L.take 0)) v3 w3 ∧ TopS w.heap.size S T (.slice a L.length cap) false w3 ∧ Below w.heap.size w w3) := Lib.hid ⟨by rw [List.take_zero, entsB_nil, List.append_nil]; exact ho3, C3.out, B3.out⟩
      clear ho3 hb3 N2 Z2 M2 B2 C2 p0 p1 p2 p3 HV C0 B0
      obtain ⟨⟨p0, p1, p2, p3⟩, -⟩ := C3.out
      go_wp2
      clear p0 p1 p2 p3 C3 B3
      go_loopw [6, 8, 9, 10, 31] (fun b _ _ _ i wr => ∃ k : Nat, k ≤ L.length ∧ i = .int .i64 (k : Int) ∧ Hid (Own (w.heap.size + 1) (hd ++ entsB (L.take k)) b wr ∧ TopS w.heap.size S T (.slice a L.length cap) false wr ∧ Below w.heap.size w wr)) (fun _ _ _ _ i _ => L.length - (intOf i).toNat)
      case atStart => exact ⟨0, by omega, rfl, HI⟩
      case round =>
        clear HI
        obtain ⟨k, hk, rfl, HI⟩ := hrel
        by_cases hlt : k < L.length
        · obtain ⟨-, a1, cap1, he1, -, -, hc1⟩ := HR.out.below HI.out.2.2
          simp only [Value.slice.injEq, true_and] at he1
          obtain ⟨rfl, rfl⟩ := he1
          obtain ⟨b, off, rfl, hb, hcell⟩ := hc1 (by omega)
          obtain ⟨c0, c1, c2⟩ := hcell k hlt
          have hlt2 : (k : Int) < (L.length : Int) := by omega
          have hlL : (L.length : Int) ≤ 32 := by omega
          have hen := HEN.out k hlt
          have hox := hy.at_ k
          have hbl := HBL.out k
          have hkl : (L.take k).length ≤ 32 := by rw [List.length_take]; omega
          have HSS := Lib.hid (HSU.out k hlt)
          have hhl := HHL.out
          clear hc1 hcell hb
          generalize L.getD k Ent.z = X at *
          have hkb := keyB_len hen.1
          have hte : textE (byt X.k) = 0 := by unfold textE; rw [if_pos hkb]
          have htx : (textB (byt X.k)).length ≤ 65560 := by
            unfold textB
            rw [if_pos hkb, List.length_append]
            have := (uintB_len (byt X.k).length (by omega)).2
            omega
          have HTX := Lib.hid (fun w => encText_any X.k w hox.1)
          rw [hte] at HTX
          have HEB : Hid (entB X = textB (byt X.k) ++ encL [X.c, X.e]) := Lib.hid (by simp [entB, encL])
          have HLN : Hid ((hd ++ entsB (L.take k)).length + (textB (byt X.k)).length ≤ 140737488355328) := Lib.hid (by rw [List.length_append]; omega)
          have HLN2 : Hid ((hd ++ entsB (L.take k) ++ textB (byt X.k)).length ≤ 10000000) := Lib.hid (by rw [List.length_append, List.length_append]; omega)
          have HCE := Lib.hid (⟨by omega, by omega, by omega, by omega⟩ : 0 ≤ X.c ∧ X.c ≤ 1099511627776 ∧ 0 ≤ X.e ∧ X.e ≤ 1099511627776)
          generalize textB (byt X.k) = TB at *
          have A1 := Lib.hid (At3.new X wr)
          have O1 := Lib.hid (HI.out.1.alloc (.cells #[.string X.k, .int .i64 X.c, .int .i64 X.e] 49))
          have C1 := Lib.hid (HI.out.2.1.below (b1 (.cells #[.string X.k, .int .i64 X.c, .int .i64 X.e] 49)) HI.out.2.1.lt)
          have B1 := Lib.hid (bal HI.out.2.2 (.cells #[.string X.k, .int .i64 X.c, .int .i64 X.e] 49))
          have K1 := Lib.hid (fun g e => (World.ownsRow.lt HI.out.1.2 g e).2)
          clear HI hen hox hbl hkl hte htx hkb HEN HBL HSU
          go_wp2_with (first
            | (go_at_call 52; (with_reducible refine (HTX.out _).mono ?_); rintro e w4 ⟨v4, rfl, ho4, hb4⟩; have O4 := Lib.hid (O1.out.below hb4); have R4 := Lib.hid ho4.rd.src; have C4 := Lib.hid (C1.out.below hb4 C1.out.lt); have B4 := Lib.hid (bgo B1.out hb4); have A4 := Lib.hid (A1.out.go hb4); have Z4 : Hid (w.heap.size + 1 ≤ w4.heap.size) := Lib.hid C4.out.lt; clear ho4 hb4 O1 C1 B1 A1)
            | (at_builtin; refine wp_appL8 rfl _ _ _ rfl (w.heap.size + 1) (hd ++ entsB (L.take k)) TB _ _ rfl rfl O4.out R4.out Z4.out HLN.out ?_; (intro v5 w5 ho5 hb5 hl5; have O5 := Lib.hid ho5; have C5 := Lib.hid (C4.out.below hb5 (Nat.lt_succ_self _)); have B5 := Lib.hid (B4.out.trans (hb5.mono (Nat.le_succ _))); have A5 := Lib.hid (A4.out.lone hl5 K1.out); obtain ⟨x0, x1, x2⟩ := A5.out.zero; clear ho5 hb5 hl5 O4 C4 B4 A4 R4 Z4)))
          have N5 := Lib.hid (OwnI.two (c := X.c) (d := X.e) (by have := HCE.out; omega) (by have := HCE.out; omega) w5)
          have Z5 : Hid (w.heap.size + 1 ≤ (w5.alloc (.cells #[.int .i64 X.c, .int .i64 X.e] 3)).heap.size) := Lib.hid (by have := C5.out.lt; simp; omega)
          have M5 : Hid (Small9 [X.c, X.e]) := Lib.hid (fun n hn => by have := HCE.out; simp at hn; omega)
          go_at_call 51
          refine (auints9_any (w.heap.size + 1) w5.heap.size (hd ++ entsB (L.take k) ++ TB) [X.c, X.e] _ _ _ (O5.out.alloc _) N5.out M5.out Z5.out HLN2.out (by simp)).mono ?_
          rintro e w6 ⟨v6, rfl, ho6, hb6⟩
          have O6 : Hid (Own (w.heap.size + 1) (hd ++ entsB (L.take (k + 1))) v6 w6) := Lib.hid (by rw [HSS.out, HEB.out]; simpa only [List.append_assoc] using ho6)
          have C6 := Lib.hid ((C5.out.below (b1 (.cells #[.int .i64 X.c, .int .i64 X.e] 3)) C5.out.lt).below hb6 (Nat.lt_succ_self _))
          have B6 := Lib.hid ((bal B5.out (.cells #[.int .i64 X.c, .int .i64 X.e] 3)).trans (hb6.mono (Nat.le_succ _)))
          clear ho6 hb6 O5 C5 B5 A5 N5 Z5 M5 x0 x1 x2
          go_wp2
          exact ⟨⟨k + 1, by omega, by go_num, Lib.hid ⟨O6.out, C6.out, B6.out⟩⟩, by simp [intOf]; omega⟩
        · obtain rfl : k = L.length := by omega
          have hnlt : ¬ (L.length : Int) < (L.length : Int) := by omega
          have O6 := Lib.hid HI.out.1
          have B6 := Lib.hid HI.out.2.2
          rw [HT.out] at O6
          clear HI
          go_wp2
          go_ret2
          exact ⟨_, rfl, O6.out.mono (Nat.le_succ _), B6.out⟩
    · have HHE : Hid (encL [S, T, 1, (L.length : Int)] = hd) := Lib.hid (HHD.out 1 (by decide))
      clear HHD
      go_enter Try.func22, Try.ntmps22
      go_wp2_with (go_at_call 17; (with_reducible refine (HV.out _ B0.out).mono ?_); rintro e w2 ⟨rfl, hb2⟩; have B2 := Lib.hid (bgo B0.out hb2); have C2 := Lib.hid (C0.out.below hb2 C0.out.lt); obtain ⟨⟨p0, p1, p2, p3⟩, -⟩ := C2.out; clear hb2)
      have N2 := Lib.hid (OwnI.four (a := S) (b := T) (c := 1) (d := (L.length : Int)) (by omega) (by omega) (by omega) (by omega) w2)
      have Z2 : Hid (w.heap.size + 1 ≤ (w2.alloc (.cells #[.int .i64 S, .int .i64 T, .int .i64 1, .int .i64 (L.length : Int)] 3)).heap.size) := Lib.hid (by have := C2.out.lt; simp; omega)
      have M2 : Hid (Small9 [S, T, 1, (L.length : Int)]) := Lib.hid (fun n hn => by simp at hn; omega)
      go_at_call 51
      refine (auints9_any (w.heap.size + 1) w2.heap.size [] [S, T, 1, (L.length : Int)] _ _ _ (Own.empty _ _) N2.out M2.out Z2.out (by simp) (by simp)).mono ?_
      rintro e w3 ⟨v3, rfl, ho3, hb3⟩
      rw [List.nil_append, HHE.out] at ho3
      have C3 := Lib.hid ((C2.out.below (b1 (.cells #[.int .i64 S, .int .i64 T, .int .i64 1, .int .i64 (L.length : Int)] 3)) C2.out.lt).below hb3 (Nat.lt_succ_self _))
      have B3 := Lib.hid ((bal B2.out (.cells #[.int .i64 S, .int .i64 T, .int .i64 1, .int .i64 (L.length : Int)] 3)).trans (hb3.mono (Nat.le_succ _)))
      have HI : Hid (Own (w.heap.size + 1) (hd ++ entsB (L.take 0)) v3 w3 ∧ TopS w.heap.size S T (.slice a L.length cap) true w3 ∧ Below w.heap.size w w3) := Lib.hid ⟨by rw [List.take_zero, entsB_nil, List.append_nil]; exact ho3, C3.out, B3.out⟩
      clear ho3 hb3 N2 Z2 M2 B2 C2 p0 p1 p2 p3 HV C0 B0
      obtain ⟨⟨p0, p1, p2, p3⟩, -⟩ := C3.out
      go_wp2
      clear p0 p1 p2 p3 C3 B3
      go_loopw [6, 8, 9, 10, 31] (fun b _ _ _ i wr => ∃ k : Nat, k ≤ L.length ∧ i = .int .i64 (k : Int) ∧ Hid (Own (w.heap.size + 1) (hd ++ entsB (L.take k)) b wr ∧ TopS w.heap.size S T (.slice a L.length cap) true wr ∧ Below w.heap.size w wr)) (fun _ _ _ _ i _ => L.length - (intOf i).toNat)
      case atStart => exact ⟨0, by omega, rfl, HI⟩
      case round =>
        clear HI
        obtain ⟨k, hk, rfl, HI⟩ := hrel
        by_cases hlt : k < L.length
        · obtain ⟨-, a1, cap1, he1, -, -, hc1⟩ := HR.out.below HI.out.2.2
          simp only [Value.slice.injEq, true_and] at he1
          obtain ⟨rfl, rfl⟩ := he1
          obtain ⟨b, off, rfl, hb, hcell⟩ := hc1 (by omega)
          obtain ⟨c0, c1, c2⟩ := hcell k hlt
          have hlt2 : (k : Int) < (L.length : Int) := by omega
          have hlL : (L.length : Int) ≤ 32 := by omega
          have hen := HEN.out k hlt
          have hox := hy.at_ k
          have hbl := HBL.out k
          have hkl : (L.take k).length ≤ 32 := by rw [List.length_take]; omega
          have HSS := Lib.hid (HSU.out k hlt)
          have hhl := HHL.out
          clear hc1 hcell hb
          generalize L.getD k Ent.z = X at *
          have hkb := keyB_len hen.1
          have hte : textE (byt X.k) = 0 := by unfold textE; rw [if_pos hkb]
          have htx : (textB (byt X.k)).length ≤ 65560 := by
            unfold textB
            rw [if_pos hkb, List.length_append]
            have := (uintB_len (byt X.k).length (by omega)).2
            omega
          have HTX := Lib.hid (fun w => encText_any X.k w hox.1)
          rw [hte] at HTX
          have HEB : Hid (entB X = textB (byt X.k) ++ encL [X.c, X.e]) := Lib.hid (by simp [entB, encL])
          have HLN : Hid ((hd ++ entsB (L.take k)).length + (textB (byt X.k)).length ≤ 140737488355328) := Lib.hid (by rw [List.length_append]; omega)
          have HLN2 : Hid ((hd ++ entsB (L.take k) ++ textB (byt X.k)).length ≤ 10000000) := Lib.hid (by rw [List.length_append, List.length_append]; omega)
          have HCE := Lib.hid (⟨by omega, by omega, by omega, by omega⟩ : 0 ≤ X.c ∧ X.c ≤ 1099511627776 ∧ 0 ≤ X.e ∧ X.e ≤ 1099511627776)
          generalize textB (byt X.k) = TB at *
          have A1 := Lib.hid (At3.new X wr)
          have O1 := Lib.hid (HI.out.1.alloc (.cells #[.string X.k, .int .i64 X.c, .int .i64 X.e] 49))
          have C1 := Lib.hid (HI.out.2.1.below (b1 (.cells #[.string X.k, .int .i64 X.c, .int .i64 X.e] 49)) HI.out.2.1.lt)
          have B1 := Lib.hid (bal HI.out.2.2 (.cells #[.string X.k, .int .i64 X.c, .int .i64 X.e] 49))
          have K1 := Lib.hid (fun g e => (World.ownsRow.lt HI.out.1.2 g e).2)
          clear HI hen hox hbl hkl hte htx hkb HEN HBL HSU
          go_wp2_with (first
            | (go_at_call 52; (with_reducible refine (HTX.out _).mono ?_); rintro e w4 ⟨v4, rfl, ho4, hb4⟩; have O4 := Lib.hid (O1.out.below hb4); have R4 := Lib.hid ho4.rd.src; have C4 := Lib.hid (C1.out.below hb4 C1.out.lt); have B4 := Lib.hid (bgo B1.out hb4); have A4 := Lib.hid (A1.out.go hb4); have Z4 : Hid (w.heap.size + 1 ≤ w4.heap.size) := Lib.hid C4.out.lt; clear ho4 hb4 O1 C1 B1 A1)
            | (at_builtin; refine wp_appL8 rfl _ _ _ rfl (w.heap.size + 1) (hd ++ entsB (L.take k)) TB _ _ rfl rfl O4.out R4.out Z4.out HLN.out ?_; (intro v5 w5 ho5 hb5 hl5; have O5 := Lib.hid ho5; have C5 := Lib.hid (C4.out.below hb5 (Nat.lt_succ_self _)); have B5 := Lib.hid (B4.out.trans (hb5.mono (Nat.le_succ _))); have A5 := Lib.hid (A4.out.lone hl5 K1.out); obtain ⟨x0, x1, x2⟩ := A5.out.zero; clear ho5 hb5 hl5 O4 C4 B4 A4 R4 Z4)))
          have N5 := Lib.hid (OwnI.two (c := X.c) (d := X.e) (by have := HCE.out; omega) (by have := HCE.out; omega) w5)
          have Z5 : Hid (w.heap.size + 1 ≤ (w5.alloc (.cells #[.int .i64 X.c, .int .i64 X.e] 3)).heap.size) := Lib.hid (by have := C5.out.lt; simp; omega)
          have M5 : Hid (Small9 [X.c, X.e]) := Lib.hid (fun n hn => by have := HCE.out; simp at hn; omega)
          go_at_call 51
          refine (auints9_any (w.heap.size + 1) w5.heap.size (hd ++ entsB (L.take k) ++ TB) [X.c, X.e] _ _ _ (O5.out.alloc _) N5.out M5.out Z5.out HLN2.out (by simp)).mono ?_
          rintro e w6 ⟨v6, rfl, ho6, hb6⟩
          have O6 : Hid (Own (w.heap.size + 1) (hd ++ entsB (L.take (k + 1))) v6 w6) := Lib.hid (by rw [HSS.out, HEB.out]; simpa only [List.append_assoc] using ho6)
          have C6 := Lib.hid ((C5.out.below (b1 (.cells #[.int .i64 X.c, .int .i64 X.e] 3)) C5.out.lt).below hb6 (Nat.lt_succ_self _))
          have B6 := Lib.hid ((bal B5.out (.cells #[.int .i64 X.c, .int .i64 X.e] 3)).trans (hb6.mono (Nat.le_succ _)))
          clear ho6 hb6 O5 C5 B5 A5 N5 Z5 M5 x0 x1 x2
          go_wp2
          exact ⟨⟨k + 1, by omega, by go_num, Lib.hid ⟨O6.out, C6.out, B6.out⟩⟩, by simp [intOf]; omega⟩
        · obtain rfl : k = L.length := by omega
          have hnlt : ¬ (L.length : Int) < (L.length : Int) := by omega
          have O6 := Lib.hid HI.out.1
          have B6 := Lib.hid HI.out.2.2
          rw [HT.out] at O6
          clear HI
          go_wp2
          go_ret2
          exact ⟨_, rfl, O6.out.mono (Nat.le_succ _), B6.out⟩
  · rw [if_neg hE]
    have hE2 : (valE S T L != 0) = true := by simpa using hE
    generalize valE S T L = E at *
    clear hE
    go_enter Try.func22, Try.ntmps22
    go_wp2_with (go_at_call 17; (with_reducible refine (HV.out _ B0.out).mono ?_); rintro e w2 ⟨rfl, hb2⟩; have B2 := Lib.hid (bgo B0.out hb2); clear hb2)
    go_ret2
    exact ⟨_, rfl, Own.empty _ _, B2.out⟩
/-- append, onto bytes of the call's own, as one step of a region that draws its order: just its own row turns. -/
theorem step_appL8 {w : World} {ops : Array Oper} {o : Oper} {a : Act} {K : Act → World → Prop} {Q : Exit → Act → World → Prop} {E : Prop} (hgd : o.guard = none) (s x : Operand) (tx : TypeId)
    (ho : o.op = .call { callee := .builtin .append, args := #[s, x], argTypes := #[42, tx] }) (B : Nat) (L M : List Int) (v u : Value) (hs : a.eval s = v) (hx : a.eval x = u)
    (hown : Own B L v w) (hsrc : From M tx u w) (hB : B ≤ w.heap.size) (hn : L.length + M.length ≤ 140737488355328)
    (h : ∀ v' w', Own B (L ++ M) v' w' → Below B w w' → Lone v w w' → K (a.put o.dst v') w') : if Region.wanted o (yielded ops a.tmps) = true then Oper.wp Try.prog o a w K Q else E := by
  have hw : Region.wanted o (yielded ops a.tmps) = true := by simp [Region.wanted, hgd]
  rw [if_pos hw]
  obtain ⟨i0, hi, hz0, hz1, hz2⟩ := info_parts info_u8
  obtain ⟨v', w', hr, h1, h2⟩ := run_own_src (P := Try.prog) w B 42 tx o.type 5 i0 (.int .u8 0) 1 1 Try.underlying42 hi hz0 hz1 hz2 rfl (by decide) v L.length (cells8 L) hown.2 u M.length (cells8 M) hsrc.2 (by unfold maxLen; omega) (by omega) hB
  unfold Oper.wp execOp
  simp only [ho, resolve, invoke, builtin, Sem.run_bind, Sem.run_pure, Result.andThen_ok, List.map_toArray, List.map_cons, List.map_nil, hs, hx, hr]
  have hb := (Below.refl B w).grown h2 hB (fun k hk => (World.ownsRow.lt hown.2 k hk).1)
  refine h v' w' ⟨hown.1.app hsrc.1, ?_⟩ hb ⟨hb.size, fun g hg hne => h2.block g hg (Ne.symm hne)⟩
  rw [List.length_append, cells8_app]
  exact h1
/-- Newer bytes stay where older ones are appended to. -/
theorem Own.aside {B1 : Nat} {L : List Int} {u v : Value} {w w' : World} (h : Own B1 L u w) (hl : Lone v w w') (hk : ∀ g, v.ownBlock = some g → g < B1) : Own B1 L u w' :=
  ⟨h.1, row_keep h.2 (fun g hg e => hl.2 g hg (fun e' => absurd (hk g e') (Nat.not_lt.2 (World.ownsRow.lt h.2 g e).1)))⟩
set_option maxRecDepth 100000 in
set_option maxHeartbeats 4000000 in
theorem renc9_any (S T : Int) (L : List Ent) (s : Bool) (a : Option Addr) (n cap : Nat) (w : World) (S0 : -9223372036854775808 ≤ S) (S1 : S ≤ 9223372036854775807) (T0 : -9223372036854775808 ≤ T) (T1 : T ≤ 9223372036854775807) (hr : RdE L (.slice a n cap) w) (hn : L.length ≤ 549755813888) :
    Calls Try.prog 23 #[.agg #[.int .i64 S, .int .i64 T, .slice a n cap, .bool s]] w fun e w' => ∃ v, e = .returned (.tuple #[v, .int .i64 (valE S T L)]) ∧ Own w.heap.size (cod9 S T L s) v w' ∧ Below w.heap.size w w' := by
  obtain ⟨a', cap', he⟩ := hr.shape
  simp only [Value.slice.injEq] at he
  obtain ⟨rfl, rfl, rfl⟩ := he
  have hy := hr.1
  have HR := Lib.hid hr
  have HV := Lib.hid (fun (w' : World) (hb : Below w.heap.size w w') => rval_any S T L s a L.length cap w' S0 S1 T0 T1 (hr.below hb) hn)
  have C0 := Lib.hid (TopS.new S T (.slice a L.length cap) s 25 w)
  have B0 := Lib.hid (b1 (a := w) (.cells #[.int .i64 S, .int .i64 T, .slice a L.length cap, .bool s] 25))
  clear hr
  unfold cod9
  by_cases hE : valE S T L = 0
  · rw [if_pos hE]
    have hval := valE_ok hE
    rw [hE] at HV ⊢
    have hs0 := hval.s0
    have hs1 := hval.s1
    have ht0 := hval.t0
    have ht1 := hval.t1
    have hsm := hval.small
    have HEN := Lib.hid (fun i (hi : i < L.length) => entE_zero (hval.ent i hi))
    have hall : ∀ x ∈ L, entE x = 0 := fun x hx => by
      obtain ⟨i, hi, rfl⟩ := List.mem_iff_getElem.1 hx
      have := hval.ent i hi
      simpa [List.getD, hi] using this
    have HBL := Lib.hid (fun k => entsB_len (L := L.take k) (fun x hx => hall x (List.mem_of_mem_take hx)))
    have HSU := Lib.hid (fun k (h : k < L.length) => entsB_succ h)
    have HT := Lib.hid (show L.take L.length = L from List.take_length)
    obtain ⟨z, hz⟩ : ∃ z : Nat, S = (z : Int) := ⟨S.toNat, by omega⟩
    obtain ⟨t, ht⟩ : ∃ t : Nat, T = (t : Int) := ⟨T.toNat, by omega⟩
    have HU1 := Lib.hid (fun w => ruint_any z w (by omega))
    have HU2 := Lib.hid (fun w => ruint_any t w (by omega))
    have HU3 := Lib.hid (fun w => ruint_any L.length w (by omega))
    have HFL := Lib.hid (fun w => flag_any s w)
    have h1 := (uintB_len z (by omega)).2
    have h2 := (uintB_len t (by omega)).2
    have h3 := (uintB_len (flagN s) (by unfold flagN; split <;> omega)).2
    have h4 := (uintB_len L.length (by omega)).2
    have HHD : Hid (hdB S T s L.length = uintB z ++ uintB t ++ uintB (flagN s) ++ uintB L.length) := Lib.hid (by unfold hdB; rw [hz, ht, Int.toNat_natCast, Int.toNat_natCast])
    rw [HHD.out]
    rw [← hz] at HU1
    rw [← ht] at HU2
    generalize uintB z = DA at *
    generalize uintB t = DB at *
    generalize uintB (flagN s) = DC at *
    generalize uintB L.length = DD at *
    have HLA := Lib.hid (⟨h1, h2, h3, h4⟩ : DA.length ≤ 9 ∧ DB.length ≤ 9 ∧ DC.length ≤ 9 ∧ DD.length ≤ 9)
    obtain ⟨hd, hhd⟩ : ∃ hd, hd = DA ++ DB ++ DC ++ DD := ⟨_, rfl⟩
    rw [← hhd]
    have HH9 := Lib.hid hhd
    clear hE hval hall h1 h2 h3 h4 HHD hz ht hhd
    go_enter Try.func23, Try.ntmps23
    go_upto_region 4 with (go_at_call 18; (with_reducible refine (HV.out _ B0.out).mono ?_); rintro e w2 ⟨rfl, hb2⟩; have B2 := Lib.hid (bgo B0.out hb2); have C2 := Lib.hid (C0.out.below hb2 C0.out.lt); clear hb2)
    have D2 : Hid (TopS w.heap.size S T (.slice a L.length cap) s w2.drew) := Lib.hid (C2.out.below (Below.refl _ _).drew C2.out.lt)
    have E2 : Hid (Below w.heap.size w w2.drew) := Lib.hid B2.out.drew
    have S0 := D2.out.1
    clear HV C0 B0
    refine wp_meetX 5 12 7 (fun v wx => Hid (Own (w.heap.size + 1) (DA ++ DB) v wx ∧ TopS w.heap.size S T (.slice a L.length cap) s wx ∧ Below w.heap.size w wx)) ?_ ?_
    · intro G hG
      go_region_held3 (fun u => u.cell? ⟨w.heap.size, 0, none⟩ = some (.int .i64 S) ∧ u.cell? ⟨w.heap.size, 1, none⟩ = some (.int .i64 T) ∧ u.cell? ⟨w.heap.size, 2, none⟩ = some (.slice a L.length cap) ∧ u.cell? ⟨w.heap.size, 3, none⟩ = some (.bool s)) (first | with_reducible assumption | go_keep) (first
        | (go_at_call 53; (with_reducible refine (HU2.out _).mono ?_); rintro e w4 ⟨v4, rfl, ho4, hb4⟩; have O4 := Lib.hid (O3.out.below hb4); have R4 := Lib.hid ho4.rd.src; have C4 := Lib.hid (C3.out.below hb4 C3.out.lt); have B4 := Lib.hid (bgo B3.out hb4); have S4 := C4.out.1; clear ho4 hb4)
        | (go_at_call 53; (with_reducible refine (HU1.out _).mono ?_); rintro e w3 ⟨v3, rfl, ho3, hb3⟩; have O3 := Lib.hid (Own.mono ho3 (B' := w.heap.size + 1) (by have := D2.out.lt; omega)); have C3 := Lib.hid (D2.out.below hb3 D2.out.lt); have B3 := Lib.hid (bgo E2.out hb3); have S3 := C3.out.1; clear ho3 hb3)
        | (refine step_appL8 rfl _ _ _ rfl (w.heap.size + 1) DA DB _ _ rfl rfl O4.out R4.out C4.out.lt (by have := HLA.out; omega) ?_; (intro v5 w5 ho5 hb5 hl5; have O5 := Lib.hid ho5; have C5 := Lib.hid (C4.out.below hb5 (Nat.lt_succ_self _)); have B5 := Lib.hid (B4.out.trans (hb5.mono (Nat.le_succ _))); have S5 := C5.out.1; clear ho5 hb5 hl5)))
      all_goals
        exact hG _ _ _ ⟨[_, _, _, _, _, _, _], rfl, rfl⟩ (Lib.hid ⟨O5.out, C5.out, B5.out⟩)
    intro aX wX vX hoff HX
    obtain ⟨us, hus, rfl⟩ := hoff
    match us, hus with
    | [u0, u1, u2, u3, u4, u5, u6], _ =>
      simp only [List.set_cons_succ, List.set_cons_zero, List.take_succ_cons, List.take_zero, List.drop_succ_cons, List.drop_zero, List.cons_append, List.nil_append]
      clear S0 D2 E2 B2 C2 HU1 HU2
      go_upto_region 5 with (fail)
      have S0 := HX.out.2.1.1
      have HXd : Hid (Own (w.heap.size + 1) (DA ++ DB) vX wX.drew ∧ TopS w.heap.size S T (.slice a L.length cap) s wX.drew ∧ Below w.heap.size w wX.drew) := Lib.hid ⟨HX.out.1.below (Below.refl _ _).drew, HX.out.2.1.below (Below.refl _ _).drew HX.out.2.1.lt, HX.out.2.2.drew⟩
      have S1 := HXd.out.2.1.1
      refine wp_meetX 5 19 10 (fun v wx => Hid (Own (w.heap.size + 1) (DA ++ DB ++ DC ++ DD) v wx ∧ TopS w.heap.size S T (.slice a L.length cap) s wx ∧ Below w.heap.size w wx)) ?_ ?_
      · intro G hG
        go_region_held3 (fun u => u.cell? ⟨w.heap.size, 0, none⟩ = some (.int .i64 S) ∧ u.cell? ⟨w.heap.size, 1, none⟩ = some (.int .i64 T) ∧ u.cell? ⟨w.heap.size, 2, none⟩ = some (.slice a L.length cap) ∧ u.cell? ⟨w.heap.size, 3, none⟩ = some (.bool s)) (first | with_reducible assumption | go_keep) (first
          | (go_at_call 53; (with_reducible refine (HU3.out _).mono ?_); rintro e w5 ⟨v5, rfl, ho5, hb5⟩; (have K5 := Lib.hid (fun g e => (World.ownsRow.lt O4.out.2 g e).2)); have O5 := Lib.hid (O4.out.below hb5); have U5 := Lib.hid ho5; have C5 := Lib.hid (C4.out.below hb5 C4.out.lt); have B5 := Lib.hid (bgo B4.out hb5); have Sa5 := C5.out.1; clear ho5 hb5)
          | (go_at_call 53; (with_reducible refine (HU3.out _).mono ?_); rintro e w5 ⟨v5, rfl, ho5, hb5⟩; (have K5 := Lib.hid (fun g e => (World.ownsRow.lt O3.out.2 g e).2)); have O5' := Lib.hid (O3.out.below hb5); have R5' := Lib.hid (R3.out.below hb5); have U5' := Lib.hid ho5; have C5' := Lib.hid (C3.out.below hb5 C3.out.lt); have B5' := Lib.hid (bgo B3.out hb5); have Sa5p := C5'.out.1; clear ho5 hb5)
          | (go_at_call 54; (with_reducible refine (HFL.out _).mono ?_); rintro e w3 ⟨v3, rfl, ho3, hb3⟩; have O3 := Lib.hid (HXd.out.1.below hb3); have R3 := Lib.hid ho3.rd; have C3 := Lib.hid (HXd.out.2.1.below hb3 HXd.out.2.1.lt); have B3 := Lib.hid (bgo HXd.out.2.2 hb3); have Sa3 := C3.out.1; clear ho3 hb3)
          | (refine step_appL8 rfl _ _ _ rfl (w.heap.size + 1) ((DA ++ DB) ++ DC) DD _ _ rfl rfl O5.out U5.out.rd.src C5.out.lt (by have := HLA.out; rw [List.length_append, List.length_append]; omega) ?_; (intro v6 w6 ho6 hb6 hl6; have O6 := Lib.hid ho6; have C6 := Lib.hid (C5.out.below hb6 (Nat.lt_succ_self _)); have B6 := Lib.hid (B5.out.trans (hb6.mono (Nat.le_succ _))); have Sa6 := C6.out.1; clear ho6 hb6 hl6))
          | (refine step_appL8 rfl _ _ _ rfl (w.heap.size + 1) (DA ++ DB) DC _ _ rfl rfl O5'.out R5'.out.src C5'.out.lt (by have := HLA.out; rw [List.length_append]; omega) ?_; (intro v4 w4 ho4 hb4 hl4; have O5 := Lib.hid ho4; have U5 := Lib.hid (U5'.out.aside hl4 K5.out); have C5 := Lib.hid (C5'.out.below hb4 (Nat.lt_succ_self _)); have B5 := Lib.hid (B5'.out.trans (hb4.mono (Nat.le_succ _))); have Sa5 := C5.out.1; clear ho4 hb4 hl4))
          | (refine step_appL8 rfl _ _ _ rfl (w.heap.size + 1) (DA ++ DB) DC _ _ rfl rfl O3.out R3.out.src C3.out.lt (by have := HLA.out; rw [List.length_append]; omega) ?_; (intro v4 w4 ho4 hb4 hl4; have O4 := Lib.hid ho4; have C4 := Lib.hid (C3.out.below hb4 (Nat.lt_succ_self _)); have B4 := Lib.hid (B3.out.trans (hb4.mono (Nat.le_succ _))); have Sa4 := C4.out.1; clear ho4 hb4 hl4)))
        all_goals
          exact hG _ _ _ ⟨[_, _, _, _, _, _, _, _, _, _], rfl, rfl⟩ (Lib.hid ⟨O6.out, C6.out, B6.out⟩)
      intro aY wY vY hoff HY
      obtain ⟨us, hus, rfl⟩ := hoff
      match us, hus with
      | [y0, y1, y2, y3, y4, y5, y6, y7, y8, y9], _ =>
        simp only [List.set_cons_succ, List.set_cons_zero, List.take_succ_cons, List.take_zero, List.drop_succ_cons, List.drop_zero, List.cons_append, List.nil_append]
        clear S0 S1 HX HXd HU3 HFL
        have HHL : Hid (hd.length ≤ 36) := Lib.hid (by have := HLA.out; rw [HH9.out]; simp only [List.length_append]; omega)
        have HI : Hid (Own (w.heap.size + 1) (hd ++ entsB (L.take 0)) vY wY ∧ TopS w.heap.size S T (.slice a L.length cap) s wY ∧ Below w.heap.size w wY) := Lib.hid ⟨by rw [List.take_zero, entsB_nil, List.append_nil, HH9.out]; exact HY.out.1, HY.out.2⟩
        clear HY HH9
        go_wp2
        go_loopw [5, 6] (fun b i wr => ∃ k : Nat, k ≤ L.length ∧ i = .int .i64 (k : Int) ∧ Hid (Own (w.heap.size + 1) (hd ++ entsB (L.take k)) b wr ∧ TopS w.heap.size S T (.slice a L.length cap) s wr ∧ Below w.heap.size w wr)) (fun _ i _ => L.length - (intOf i).toNat)
        case atStart => exact ⟨0, by omega, rfl, HI⟩
        case round =>
          clear HI
          obtain ⟨k, hk, rfl, HI⟩ := hrel
          obtain ⟨⟨p0, p1, p2, p3⟩, -⟩ := HI.out.2.1
          by_cases hlt : k < L.length
          · have hRw := HR.out.below HI.out.2.2
            obtain ⟨-, a1, cap1, he1, -, -, hc1⟩ := HR.out
            simp only [Value.slice.injEq, true_and] at he1
            obtain ⟨rfl, rfl⟩ := he1
            obtain ⟨b, off, rfl, hb, hcell⟩ := hc1 (by omega)
            have hcw := hcell k hlt
            have HCB := Lib.hid (fun (u : World) (hu : Below w.heap.size w u) => hcw.below hu hb)
            obtain ⟨c0, c1, c2⟩ := HCB.out _ HI.out.2.2
            have hlt2 : (k : Int) < (L.length : Int) := by omega
            have hlL : (L.length : Int) ≤ 32 := by omega
            have hk0 : (0 : Int) ≤ (k : Int) := by omega
            have hen := HEN.out k hlt
            have hbl := HBL.out k
            have hkl : (L.take k).length ≤ 32 := by rw [List.length_take]; omega
            have HSS := Lib.hid (HSU.out k hlt)
            have hhl := HHL.out
            clear hc1 hcell hb hcw hRw
            generalize L.getD k Ent.z = X at *
            have hkb := keyB_len hen.1
            have hkb2 : X.k.size ≤ 65536 := by rw [byt_len] at hkb; exact hkb
            have HTX := Lib.hid (fun w => rtext_any X.k w hkb2)
            have htb : textB (byt X.k) = uintB X.k.size ++ byt X.k := by unfold textB; rw [if_pos hkb, byt_len]
            rw [← htb] at HTX
            have htx : (textB (byt X.k)).length ≤ 65560 := by
              rw [htb, List.length_append]
              have := (uintB_len X.k.size (by omega)).2
              omega
            obtain ⟨xc, hxc⟩ : ∃ xc : Nat, X.c = (xc : Int) := ⟨X.c.toNat, by omega⟩
            obtain ⟨xe, hxe⟩ : ∃ xe : Nat, X.e = (xe : Int) := ⟨X.e.toNat, by omega⟩
            have HUC := Lib.hid (fun w => ruint_any xc w (by omega))
            have HUE := Lib.hid (fun w => ruint_any xe w (by omega))
            have hl1 := (uintB_len xc (by omega)).2
            have hl2 := (uintB_len xe (by omega)).2
            have HEB : Hid (entB X = textB (byt X.k) ++ uintB xc ++ uintB xe) := Lib.hid (by unfold entB; rw [hxc, hxe, Int.toNat_natCast, Int.toNat_natCast])
            rw [← hxc] at HUC
            rw [← hxe] at HUE
            generalize textB (byt X.k) = TB at *
            generalize uintB xc = BC at *
            generalize uintB xe = BE at *
            have HLN : Hid ((hd ++ entsB (L.take k)).length + TB.length ≤ 140737488355328 ∧ (hd ++ entsB (L.take k) ++ TB).length + BC.length ≤ 140737488355328 ∧ (hd ++ entsB (L.take k) ++ TB ++ BC).length + BE.length ≤ 140737488355328) := Lib.hid (by simp only [List.length_append]; omega)
            have O1 := Lib.hid HI.out.1
            have C1 := Lib.hid HI.out.2.1
            have B1 := Lib.hid HI.out.2.2
            clear HI hen hbl hkl htx hkb hkb2 htb HEN HBL HSU hxc hxe hl1 hl2
            go_upto_region 10 with (first
              | (go_at_call 55; (with_reducible refine (HTX.out _).mono ?_); rintro e w4 ⟨v4, rfl, ho4, hb4⟩; have O4 := Lib.hid (O1.out.below hb4); have R4 := Lib.hid ho4.rd.src; have C4 := Lib.hid (C1.out.below hb4 C1.out.lt); have B4 := Lib.hid (bgo B1.out hb4); have Z4 : Hid (w.heap.size + 1 ≤ w4.heap.size) := Lib.hid C4.out.lt; clear ho4 hb4 O1 C1 B1)
              | (at_builtin; refine wp_appL8 rfl _ _ _ rfl (w.heap.size + 1) (hd ++ entsB (L.take k)) TB _ _ rfl rfl O4.out R4.out Z4.out HLN.out.1 ?_; (intro v5 w5 ho5 hb5 hl5; have HZ : Hid (Own (w.heap.size + 1) (hd ++ entsB (L.take k) ++ TB) v5 w5 ∧ TopS w.heap.size S T (.slice (some ⟨b, off, none⟩) L.length cap) s w5 ∧ Below w.heap.size w w5) := Lib.hid ⟨ho5, C4.out.below hb5 (Nat.lt_succ_self _), B4.out.trans (hb5.mono (Nat.le_succ _))⟩; clear ho5 hb5 hl5 O4 C4 B4 R4 Z4)))
            have HZd : Hid (Own (w.heap.size + 1) (hd ++ entsB (L.take k) ++ TB) v5 w5.drew ∧ TopS w.heap.size S T (.slice (some ⟨b, off, none⟩) L.length cap) s w5.drew ∧ Below w.heap.size w w5.drew) := Lib.hid ⟨HZ.out.1.below (Below.refl _ _).drew, HZ.out.2.1.below (Below.refl _ _).drew HZ.out.2.1.lt, HZ.out.2.2.drew⟩
            have S1 := (⟨HZd.out.2.1.1.2.2.1, (HCB.out _ HZd.out.2.2).2.1, (HCB.out _ HZd.out.2.2).2.2⟩ : w5.drew.cell? ⟨w.heap.size, 2, none⟩ = some (.slice (some ⟨b, off, none⟩) L.length cap) ∧ w5.drew.cell? ⟨b, off + k * 3 + 1, none⟩ = some (.int .i64 X.c) ∧ w5.drew.cell? ⟨b, off + k * 3 + 2, none⟩ = some (.int .i64 X.e))
            have HCS : Hid (∀ u : World, TopS w.heap.size S T (.slice (some ⟨b, off, none⟩) L.length cap) s u → Below w.heap.size w u → u.cell? ⟨w.heap.size, 2, none⟩ = some (.slice (some ⟨b, off, none⟩) L.length cap) ∧ u.cell? ⟨b, off + k * 3 + 1, none⟩ = some (.int .i64 X.c) ∧ u.cell? ⟨b, off + k * 3 + 2, none⟩ = some (.int .i64 X.e)) := Lib.hid (fun u hc hb => ⟨hc.1.2.2.1, (HCB.out u hb).2.1, (HCB.out u hb).2.2⟩)
            clear p0 p1 p2 p3 c0 c1 c2
            obtain ⟨PP, hPP⟩ : ∃ PP, hd ++ entsB (L.take k) ++ TB = PP := ⟨_, rfl⟩
            rw [hPP] at HZ HZd HLN
            have HPP := Lib.hid hPP
            clear hPP
            refine wp_meetX 5 45 17 (fun v wx => Hid (Own (w.heap.size + 1) (PP ++ BC ++ BE) v wx ∧ TopS w.heap.size S T (.slice (some ⟨b, off, none⟩) L.length cap) s wx ∧ Below w.heap.size w wx)) ?_ ?_
            · intro G hG
              go_region_held3 (fun u => u.cell? ⟨w.heap.size, 2, none⟩ = some (.slice (some ⟨b, off, none⟩) L.length cap) ∧ u.cell? ⟨b, off + k * 3 + 1, none⟩ = some (.int .i64 X.c) ∧ u.cell? ⟨b, off + k * 3 + 2, none⟩ = some (.int .i64 X.e)) (first | with_reducible assumption | go_keep) (first
                | (go_at_call 53; (with_reducible refine (HUE.out _).mono ?_); rintro e w5 ⟨v5, rfl, ho5, hb5⟩; (have K5 := Lib.hid (fun g e => (World.ownsRow.lt O4.out.2 g e).2)); have O5 := Lib.hid (O4.out.below hb5); have U5 := Lib.hid ho5; have C5 := Lib.hid (C4.out.below hb5 C4.out.lt); have B5 := Lib.hid (bgo B4.out hb5); have Sb5 := HCS.out _ C5.out B5.out; clear ho5 hb5)
                | (go_at_call 53; (with_reducible refine (HUE.out _).mono ?_); rintro e w5 ⟨v5, rfl, ho5, hb5⟩; (have K5 := Lib.hid (fun g e => (World.ownsRow.lt O3.out.2 g e).2)); have O5' := Lib.hid (O3.out.below hb5); have R5' := Lib.hid (R3.out.below hb5); have U5' := Lib.hid ho5; have C5' := Lib.hid (C3.out.below hb5 C3.out.lt); have B5' := Lib.hid (bgo B3.out hb5); have Sb5p := HCS.out _ C5'.out B5'.out; clear ho5 hb5)
                | (go_at_call 53; (with_reducible refine (HUC.out _).mono ?_); rintro e w3 ⟨v3, rfl, ho3, hb3⟩; have O3 := Lib.hid (HZd.out.1.below hb3); have R3 := Lib.hid ho3.rd; have C3 := Lib.hid (HZd.out.2.1.below hb3 HZd.out.2.1.lt); have B3 := Lib.hid (bgo HZd.out.2.2 hb3); have Sb3 := HCS.out _ C3.out B3.out; clear ho3 hb3)
                | (refine step_appL8 rfl _ _ _ rfl (w.heap.size + 1) (PP ++ BC) BE _ _ rfl rfl O5.out U5.out.rd.src C5.out.lt (HLN.out.2.2) ?_; (intro v6 w6 ho6 hb6 hl6; have O6 := Lib.hid ho6; have C6 := Lib.hid (C5.out.below hb6 (Nat.lt_succ_self _)); have B6 := Lib.hid (B5.out.trans (hb6.mono (Nat.le_succ _))); have Sb6 := HCS.out _ C6.out B6.out; clear ho6 hb6 hl6))
                | (refine step_appL8 rfl _ _ _ rfl (w.heap.size + 1) PP BC _ _ rfl rfl O5'.out R5'.out.src C5'.out.lt (HLN.out.2.1) ?_; (intro v4 w4 ho4 hb4 hl4; have O5 := Lib.hid ho4; have U5 := Lib.hid (U5'.out.aside hl4 K5.out); have C5 := Lib.hid (C5'.out.below hb4 (Nat.lt_succ_self _)); have B5 := Lib.hid (B5'.out.trans (hb4.mono (Nat.le_succ _))); have Sb5 := HCS.out _ C5.out B5.out; clear ho4 hb4 hl4))
                | (refine step_appL8 rfl _ _ _ rfl (w.heap.size + 1) PP BC _ _ rfl rfl O3.out R3.out.src C3.out.lt (HLN.out.2.1) ?_; (intro v4 w4 ho4 hb4 hl4; have O4 := Lib.hid ho4; have C4 := Lib.hid (C3.out.below hb4 (Nat.lt_succ_self _)); have B4 := Lib.hid (B3.out.trans (hb4.mono (Nat.le_succ _))); have Sb4 := HCS.out _ C4.out B4.out; clear ho4 hb4 hl4)))
              all_goals
                exact hG _ _ _ ⟨[_, _, _, _, _, _, _, _, _, _, _, _, _, _, _, _, _], rfl, rfl⟩ (Lib.hid ⟨O6.out, C6.out, B6.out⟩)
            intro aW wW vW hoff HW
            obtain ⟨us, hus, rfl⟩ := hoff
            match us, hus with
            | [z0, z1, z2, z3, z4, z5, z6, z7, z8, z9, z10, z11, z12, z13, z14, z15, z16], _ =>
              simp only [List.set_cons_succ, List.set_cons_zero, List.take_succ_cons, List.take_zero, List.drop_succ_cons, List.drop_zero, List.cons_append, List.nil_append]
              have O9 : Hid (Own (w.heap.size + 1) (hd ++ entsB (L.take (k + 1))) vW wW) := Lib.hid (by rw [HSS.out, HEB.out, show hd ++ (entsB (L.take k) ++ (TB ++ BC ++ BE)) = PP ++ BC ++ BE from by rw [← HPP.out]; simp only [List.append_assoc]]; exact HW.out.1)
              clear S0 S1 HZ HZd HCB HCS
              go_wp2
              exact ⟨⟨k + 1, by omega, by go_num, Lib.hid ⟨O9.out, HW.out.2⟩⟩, by simp [intOf]; omega⟩
          · obtain rfl : k = L.length := by omega
            have hnlt : ¬ (L.length : Int) < (L.length : Int) := by omega
            have O6 := Lib.hid HI.out.1
            have B6 := Lib.hid HI.out.2.2
            rw [HT.out] at O6
            clear HI
            go_wp2
            go_ret2
            exact ⟨_, rfl, O6.out.mono (Nat.le_succ _), B6.out⟩
  · rw [if_neg hE]
    have hE2 : (valE S T L != 0) = true := by simpa using hE
    generalize valE S T L = E at *
    clear hE
    go_enter Try.func23, Try.ntmps23
    go_wp2_with (go_at_call 18; (with_reducible refine (HV.out _ B0.out).mono ?_); rintro e w2 ⟨rfl, hb2⟩; have B2 := Lib.hid (bgo B0.out hb2); clear hb2)
    go_ret2
    exact ⟨_, rfl, Own.empty _ _, B2.out⟩
/-- A reader in memory: what is left, whether something was wrong. -/
def PSt (g : Nat) (v : Value) (f : Bool) (w : World) : Prop :=
  (w.cell? ⟨g, 0, none⟩ = some v ∧ w.cell? ⟨g, 1, none⟩ = some (.bool f)) ∧ w.frozen? ⟨g, 0, none⟩ = false ∧ w.frozen? ⟨g, 1, none⟩ = false
theorem PSt.keep {g : Nat} {v : Value} {f : Bool} {w w' : World} (h : PSt g v f w) (hb : w'.heap[g]? = w.heap[g]?) : PSt g v f w' := by
  obtain ⟨⟨h0, h1⟩, f0, f1⟩ := h
  exact ⟨⟨(World.cell?_of_block (w := w) (a := ⟨g, 0, none⟩) hb).trans h0, (World.cell?_of_block (w := w) (a := ⟨g, 1, none⟩) hb).trans h1⟩, (World.frozen?_of_block (w := w) (a := ⟨g, 0, none⟩) hb).trans f0, (World.frozen?_of_block (w := w) (a := ⟨g, 1, none⟩) hb).trans f1⟩
theorem PSt.below {g : Nat} {v : Value} {f : Bool} {w w' : World} (h : PSt g v f w) {B : Nat} (hb : Below B w w') (hg : g < B) : PSt g v f w' := h.keep (hb.block g hg)
theorem PSt.size {g : Nat} {v : Value} {f : Bool} {w : World} (h : PSt g v f w) : g < w.heap.size := block_lt_of_cell h.1.1
theorem PSt.far {g : Nat} {v : Value} {f : Bool} {w : World} (h : PSt g v f w) {b : Nat} (hb : g ≠ b) (o : Nat) (u : Value) : PSt g v f (w.setCell ⟨b, o, none⟩ u) :=
  h.keep (Below.heap_setCell w ⟨b, o, none⟩ u g hb)
theorem PSt.set {g : Nat} {v : Value} {f : Bool} {w : World} (h : PSt g v f w) (a : Option Addr) (n c : Nat) (t : Bool) : PSt g (.slice a n c) t ((w.setCell ⟨g, 0, none⟩ (.slice a n c)).setCell ⟨g, 1, none⟩ (.bool t)) := by
  obtain ⟨⟨h0, h1⟩, f0, f1⟩ := h
  exact ⟨⟨by go_simp, by go_simp⟩, by go_simp, by go_simp⟩
theorem tlV_shape {L : List Int} {v : Value} {w : World} (h : Rd L v w) (k : Nat) (hk : k ≤ L.length) : ∃ a n c, tlV v k = .slice a n c := by
  obtain ⟨_, a, c, h', _⟩ := (h.tl k hk)
  exact ⟨a, _, c, h'⟩
/-- Bounds on what is read as a string. -/
theorem decT_bd {L : List Int} (hy : Byt L) : 0 ≤ (decT L).2.1 ∧ (decT L).2.1 ≤ L.length ∧ (decT L).1.length ≤ 65536 := by
  obtain ⟨b0, b1, b2, b3, b4, b5, b6, b7⟩ := decU_bd hy
  unfold decT
  split
  · simp
  · split
    · simp
    · split
      · simp
      · simp only [List.length_drop, List.length_take]
        omega
/-- What follows a string. -/
def restT (L : List Int) : List Int := L.drop (decT L).2.1.toNat
set_option maxRecDepth 100000 in
theorem skip_any (g : Nat) (R : List Int) (v : Value) (f : Bool) (j : Nat) (E : Int) (w W : World) (h : Rd R v W) (hj : j ≤ R.length) (hp : PSt g v f w) :
    Calls Try.prog 72 #[.pointer (some ⟨g, 0, none⟩), .int .i64 j, .int .i64 E] w fun e w' =>
      e = .returned (.tuple #[]) ∧ w' = (w.setCell ⟨g, 0, none⟩ (tlV v j)).setCell ⟨g, 1, none⟩ (.bool (f || E != 0)) := by
  have hr := fun w => tlV_run h j hj w
  obtain ⟨a, n, c, hv⟩ := tlV_shape h j hj
  rw [hv] at hr ⊢
  obtain ⟨⟨c0, c1⟩, f0, f1⟩ := hp
  clear h hj hv
  cases f
  all_goals
    go_enter Try.func72, Try.ntmps72
    go_wp2
    refine bodyPost_end (v := .tuple #[]) (by simp [results, Try.results72, go_sem]) rfl ⟨rfl, ?_⟩
    rfl
set_option maxRecDepth 100000 in
theorem pnum_any (g : Nat) (R : List Int) (v : Value) (f : Bool) (w W : World) (h : Rd R v W) (hb : Below W.heap.size W w) (hp : PSt g v f w) :
    Calls Try.prog 56 #[.pointer (some ⟨g, 0, none⟩)] w fun e w' =>
      e = .returned (.int .i64 (decU R).1) ∧ w' = (w.setCell ⟨g, 0, none⟩ (tlV v (decU R).2.1.toNat)).setCell ⟨g, 1, none⟩ (.bool (f || (decU R).2.2 != 0)) := by
  obtain ⟨b0, b1, b2, b3, b4, b5, b6, b7⟩ := decU_bd h.1
  have hd := decUint_any R v w (h.below hb)
  have hs := skip_any g R v f (decU R).2.1.toNat (decU R).2.2 w W h (by omega) hp
  have hju : (((decU R).2.1.toNat : Nat) : Int) = (decU R).2.1 := by omega
  rw [hju] at hs
  obtain ⟨⟨c0, c1⟩, f0, f1⟩ := hp
  obtain ⟨a, n, c, rfl⟩ : ∃ a n c, v = .slice a n c := by
    obtain ⟨_, a, c, h', _⟩ := h
    exact ⟨a, _, c, h'⟩
  clear h hb hju b0 b1 b2 b3 b4 b5 b6 b7
  generalize tlV (.slice a n c) (decU R).2.1.toNat = u at *
  generalize (decU R).1 = x at *
  generalize (decU R).2.1 = y at *
  generalize (decU R).2.2 = z at *
  go_enter Try.func56, Try.ntmps56
  go_wp2_with (first
    | (go_at_call 71; refine hd.mono ?_; rintro e w' ⟨rfl, rfl⟩)
    | (go_at_call 72; refine hs.mono ?_; rintro e w' ⟨rfl, rfl⟩))
  go_ret
  exact ⟨rfl, rfl⟩
set_option maxRecDepth 100000 in
theorem ptxt_any (g : Nat) (R : List Int) (v : Value) (f : Bool) (w W : World) (h : Rd R v W) (hb : Below W.heap.size W w) (hp : PSt g v f w) :
    Calls Try.prog 73 #[.pointer (some ⟨g, 0, none⟩)] w fun e w' =>
      e = .returned (.string (strOfNums (decT R).1)) ∧ w' = (w.setCell ⟨g, 0, none⟩ (tlV v (decT R).2.1.toNat)).setCell ⟨g, 1, none⟩ (.bool (f || (decT R).2.2 != 0)) := by
  obtain ⟨b2, b3, b4⟩ := decT_bd h.1
  have hd := decText_any R v w (h.below hb)
  have hs := skip_any g R v f (decT R).2.1.toNat (decT R).2.2 w W h (by omega) hp
  have hju : (((decT R).2.1.toNat : Nat) : Int) = (decT R).2.1 := by omega
  rw [hju] at hs
  obtain ⟨⟨c0, c1⟩, f0, f1⟩ := hp
  obtain ⟨a, n, c, rfl⟩ : ∃ a n c, v = .slice a n c := by
    obtain ⟨_, a, c, h', _⟩ := h
    exact ⟨a, _, c, h'⟩
  clear h hb hju b2 b3 b4
  generalize tlV (.slice a n c) (decT R).2.1.toNat = u at *
  generalize strOfNums (decT R).1 = x at *
  generalize (decT R).2.1 = y at *
  generalize (decT R).2.2 = z at *
  go_enter Try.func73, Try.ntmps73
  go_wp2_with (first
    | (go_at_call 93; refine hd.mono ?_; rintro e w' ⟨rfl, rfl⟩)
    | (go_at_call 72; refine hs.mono ?_; rintro e w' ⟨rfl, rfl⟩))
  go_ret
  exact ⟨rfl, rfl⟩
/-- A reader at the bytes R, as they lay in the world W. -/
def DS (W : World) (g : Nat) (R : List Int) (f : Bool) (w : World) : Prop := ∃ v, PSt g v f w ∧ Rd R v W
theorem DS.keep {W : World} {g : Nat} {R : List Int} {f : Bool} {w w' : World} (h : DS W g R f w) (hb : w'.heap[g]? = w.heap[g]?) : DS W g R f w' := by
  obtain ⟨v, h1, h2⟩ := h
  exact ⟨v, h1.keep hb, h2⟩
theorem DS.size {W : World} {g : Nat} {R : List Int} {f : Bool} {w : World} (h : DS W g R f w) : g < w.heap.size := by
  obtain ⟨v, h1, h2⟩ := h
  exact h1.size
theorem DS.byt {W : World} {g : Nat} {R : List Int} {f : Bool} {w : World} (h : DS W g R f w) : Byt R := by
  obtain ⟨v, h1, h2⟩ := h
  exact h2.1
theorem dnum_any {W : World} {g : Nat} {R : List Int} {f : Bool} {w : World} (h : DS W g R f w) (hb : Below W.heap.size W w) :
    Calls Try.prog 56 #[.pointer (some ⟨g, 0, none⟩)] w fun e w' =>
      e = .returned (.int .i64 (decU R).1) ∧ DS W g (restU R) (f || (decU R).2.2 != 0) w' ∧ Oth g w w' := by
  obtain ⟨v, h1, h2⟩ := h
  have hj : (decU R).2.1.toNat ≤ R.length := by have := decU_bd h2.1; omega
  refine (pnum_any g R v f w W h2 hb h1).mono ?_
  rintro e w' ⟨rfl, rfl⟩
  obtain ⟨a, n, c, hv⟩ := tlV_shape h2 _ hj
  refine ⟨rfl, ⟨tlV v (decU R).2.1.toNat, ?_, h2.tl _ hj⟩, Oth.two _ _ _ _⟩
  rw [hv]
  exact h1.set a n c _
theorem dtxt_any {W : World} {g : Nat} {R : List Int} {f : Bool} {w : World} (h : DS W g R f w) (hb : Below W.heap.size W w) :
    Calls Try.prog 73 #[.pointer (some ⟨g, 0, none⟩)] w fun e w' =>
      e = .returned (.string (strOfNums (decT R).1)) ∧ DS W g (restT R) (f || (decT R).2.2 != 0) w' ∧ Oth g w w' := by
  obtain ⟨v, h1, h2⟩ := h
  have hj : (decT R).2.1.toNat ≤ R.length := by have := decT_bd h2.1; omega
  refine (ptxt_any g R v f w W h2 hb h1).mono ?_
  rintro e w' ⟨rfl, rfl⟩
  obtain ⟨a, n, c, hv⟩ := tlV_shape h2 _ hj
  refine ⟨rfl, ⟨tlV v (decT R).2.1.toNat, ?_, h2.tl _ hj⟩, Oth.two _ _ _ _⟩
  rw [hv]
  exact h1.set a n c _
/-- The entry that is read at the bytes R, what follows it, whether something was wrong. -/
def eE (R : List Int) : Ent := ⟨strOfNums (decT R).1, (decU (restT R)).1, (decU (restU (restT R))).1⟩
def rE (R : List Int) : List Int := restU (restU (restT R))
def fE (R : List Int) : Bool := (decT R).2.2 != 0 || (decU (restT R)).2.2 != 0 || (decU (restU (restT R))).2.2 != 0
theorem Oth.turn {g : Nat} {w w' : World} (h : Oth g w w') : One g w w' := ⟨h.1, h.1.size, fun b _ hn => h.2 b hn⟩
theorem One.put {g : Nat} {w w' : World} (h : One g w w') (hg : g < w.heap.size) (o : Nat) (v : Value) : One g w (w'.setCell ⟨w.heap.size, o, none⟩ v) :=
  ⟨h.1.setCell (p := ⟨w.heap.size, o, none⟩) (Nat.le_of_lt hg) v, by have := h.2.1; simpa using this, fun b hb hn => (Below.heap_setCell w' ⟨w.heap.size, o, none⟩ v b (Nat.ne_of_lt hb)).trans (h.2.2 b hb hn)⟩
set_option maxRecDepth 100000 in
theorem dent_any {W : World} {g : Nat} {R : List Int} {f : Bool} {w : World} (h : DS W g R f w) (hb : Below W.heap.size W w) (hW : W.heap.size ≤ g) :
    Calls Try.prog 57 #[.pointer (some ⟨g, 0, none⟩)] w fun e w' =>
      e = .returned (.agg #[.string (eE R).k, .int .i64 (eE R).c, .int .i64 (eE R).e]) ∧ DS W g (rE R) (f || fE R) w' ∧ One g w w' := by
  have hg := h.size
  have D0 := Lib.hid (h.keep (Below.heap_alloc w (.cells #[.string ⟨#[]⟩, .int .i64 0, .int .i64 0] 49) g h.size))
  have B0 := Lib.hid (bal hb (.cells #[.string ⟨#[]⟩, .int .i64 0, .int .i64 0] 49))
  have O0 := Lib.hid (One.of (b1 (a := w) (.cells #[.string ⟨#[]⟩, .int .i64 0, .int .i64 0] 49)) hg)
  have E0 := Lib.hid (En3.new w)
  clear h hb
  have hK : (eE R).k = strOfNums (decT R).1 := rfl
  have hC : (eE R).c = (decU (restT R)).1 := rfl
  have hX : (eE R).e = (decU (restU (restT R))).1 := rfl
  rw [hK, hC, hX]
  clear hK hC hX
  go_enter Try.func57, Try.ntmps57
  go_wp2_with fail
  go_at_call 73
  refine (dtxt_any D0.out B0.out).mono ?_
  rintro e w2 ⟨rfl, hd2, ho2⟩
  have D2 := Lib.hid hd2
  have B2 := Lib.hid (B0.out.trans (ho2.1.mono hW))
  have E2 := Lib.hid (E0.out.keep (ho2.2 _ (by omega)))
  have O2 := Lib.hid (O0.out.trans ho2.turn)
  clear hd2 ho2 D0 B0 E0 O0
  go_wp2_with fail
  go_at_call 56
  refine (dnum_any D2.out B2.out).mono ?_
  rintro e w3 ⟨rfl, hd3, ho3⟩
  have D3 := Lib.hid hd3
  have B3 := Lib.hid (B2.out.trans (ho3.1.mono hW))
  have E3 := Lib.hid (E2.out.keep (ho3.2 _ (by omega)))
  have O3 := Lib.hid (O2.out.trans ho3.turn)
  clear hd3 ho3 D2 B2 E2 O2
  go_wp2_with fail
  go_at_call 56
  refine (dnum_any D3.out B3.out).mono ?_
  rintro e w4 ⟨rfl, hd4, ho4⟩
  have D4 : Hid (DS W g (rE R) (f || fE R) w4) := Lib.hid (by have e : (f || fE R) = ((f || (decT R).2.2 != 0) || (decU (restT R)).2.2 != 0 || (decU (restU (restT R))).2.2 != 0) := (by unfold fE; simp only [Bool.or_assoc]); rw [e]; exact hd4)
  have E4 := Lib.hid (E3.out.keep (ho4.2 _ (by omega)))
  have O4 := Lib.hid (O3.out.trans ho4.turn)
  clear hd4 ho4 D3 B3 E3 O3
  obtain ⟨⟨c0, c1, c2⟩, f0, f1, f2⟩ := E4.out
  go_wp2_with fail
  refine bodyPost_ret (v := .agg #[.string (strOfNums (decT R).1), .int .i64 (decU (restT R)).1, .int .i64 (decU (restU (restT R))).1]) (by simp [results, Try.results57, go_sem, *]) rfl ⟨rfl, ?_⟩
  exact ⟨((D4.out.keep (Below.heap_setCell _ ⟨w.heap.size, 0, none⟩ _ _ (Nat.ne_of_lt hg))).keep (Below.heap_setCell _ ⟨w.heap.size, 1, none⟩ _ _ (Nat.ne_of_lt hg))).keep (Below.heap_setCell _ ⟨w.heap.size, 2, none⟩ _ _ (Nat.ne_of_lt hg)), ((O4.out.put hg 0 _).put hg 1 _).put hg 2 _⟩
set_option maxRecDepth 100000 in
set_option maxHeartbeats 2000000 in
theorem text_good (g : Nat) (L : List Int) (v : Value) (k : Nat) (w : World) (h : Rd L v w) (hk : k ≤ L.length)
    (c0 : w.cell? ⟨g, 0, none⟩ = some v) (c1 : w.cell? ⟨g, 1, none⟩ = some (.int .i64 (k : Int))) (c2 : w.cell? ⟨g, 2, none⟩ = some (.bool false)) (f1 : w.frozen? ⟨g, 1, none⟩ = false) (hg : (decT (L.drop k)).2.2 = 0) :
    Calls Try.prog 59 #[.pointer (some ⟨g, 0, none⟩)] w fun e w' =>
      e = .returned (.string (strOfNums (decT (L.drop k)).1)) ∧ ∃ m, w' = (w.setCell ⟨g, 1, none⟩ (.int .i64 ((k : Int) + (decT (L.drop k)).2.1))).drewN m := by
  have hr := fun w => tlV_run h k hk w
  have ht := h.tl k hk
  have hd := fun n => rdecText_any (L.drop k) (tlV v k) (w.drewN n) ht
  obtain ⟨b2, b3, b4⟩ := decT_bd ht.1
  have hl : (k : Int) + (decT (L.drop k)).2.1 ≤ 9223372036854775807 := by
    obtain ⟨_, _, _, _, h1, h2, _⟩ := h
    unfold maxLen at h2
    rw [List.length_drop] at b3
    omega
  generalize tlV v k = u at *
  generalize strOfNums (decT (L.drop k)).1 = n at *
  generalize (decT (L.drop k)).2.1 = j at *
  generalize (decT (L.drop k)).2.2 = e at *
  subst hg
  clear h ht b3
  go_enter Try.func59, Try.ntmps59
  go_wp2
  go_quiet ((go_at_call 75; exact quiet_left (hd _)))
  go_wp2
  go_ret
  exact ⟨rfl, _, rfl⟩
set_option maxRecDepth 100000 in
set_option maxHeartbeats 2000000 in
theorem text_bad (g : Nat) (L : List Int) (v : Value) (k : Nat) (b : Bool) (w : World) (h : Rd L v w) (hk : k ≤ L.length)
    (c0 : w.cell? ⟨g, 0, none⟩ = some v) (c1 : w.cell? ⟨g, 1, none⟩ = some (.int .i64 (k : Int))) (c2 : w.cell? ⟨g, 2, none⟩ = some (.bool b)) (f2 : w.frozen? ⟨g, 2, none⟩ = false) (hg : b = true ∨ (decT (L.drop k)).2.2 ≠ 0) :
    Calls Try.prog 59 #[.pointer (some ⟨g, 0, none⟩)] w fun e w' =>
      e = .returned (.string ⟨#[]⟩) ∧ ∃ m, w' = (w.setCell ⟨g, 2, none⟩ (.bool true)).drewN m := by
  have hr := fun w => tlV_run h k hk w
  have ht := h.tl k hk
  have hd := fun n => rdecText_any (L.drop k) (tlV v k) (w.drewN n) ht
  generalize tlV v k = u at *
  generalize strOfNums (decT (L.drop k)).1 = n at *
  generalize (decT (L.drop k)).2.1 = j at *
  generalize (decT (L.drop k)).2.2 = e at *
  have hll : (L.length : Int) ≤ 9223372036854775807 := by
    obtain ⟨_, _, _, _, h1, h2, _⟩ := h
    unfold maxLen at h2
    omega
  clear h ht
  by_cases hb : b = true
  · subst hb
    clear hg
    go_enter Try.func59, Try.ntmps59
    go_wp2
    go_quiet ((go_at_call 75; exact quiet_left (hd _)))
    go_wp2
    go_ret
    exact ⟨rfl, _, rfl⟩
  · have hb' : b = false := by simpa using hb
    subst hb'
    have he : e ≠ 0 := by
      rcases hg with h | h
      · cases h
      · exact h
    have he' : (e != 0) = true := by simp [he]
    clear hb hg he
    go_enter Try.func59, Try.ntmps59
    go_wp2
    go_quiet ((go_at_call 75; exact quiet_left (hd _)))
    go_wp2
    go_ret
    exact ⟨rfl, _, rfl⟩
/-- What one reading of a string gives. -/
def TxtP (R : List Int) (b : Bool) (x : ByteArray) (b' : Bool) (R' : List Int) : Prop :=
  (b = false ∧ (decT R).2.2 = 0 ∧ x = strOfNums (decT R).1 ∧ b' = false ∧ R' = restT R) ∨ ((b = true ∨ (decT R).2.2 ≠ 0) ∧ x = ⟨#[]⟩ ∧ b' = true ∧ R' = R)
theorem rtxt_any {W : World} {g : Nat} {L R : List Int} {b : Bool} {w : World} (h : RS W g L R b w) (hb : Below W.heap.size W w) :
    Calls Try.prog 59 #[.pointer (some ⟨g, 0, none⟩)] w fun e w' =>
      ∃ x b' R', e = .returned (.string x) ∧ TxtP R b x b' R' ∧ RS W g L R' b' w' ∧ Oth g w w' := by
  obtain ⟨v, k, h1, h2, rfl, ⟨c0, c1, c2⟩, f0, f1, f2⟩ := h
  by_cases hg : b = false ∧ (decT (L.drop k)).2.2 = 0
  · obtain ⟨rfl, hg⟩ := hg
    refine (text_good g L v k w (h1.below hb) h2 c0 c1 c2 f1 hg).mono ?_
    rintro e w' ⟨rfl, m, rfl⟩
    have hbd := decT_bd (h1.1.drop k)
    rw [List.length_drop] at hbd
    have e1 : (k : Int) + (decT (L.drop k)).2.1 = ((k + (decT (L.drop k)).2.1.toNat : Nat) : Int) := by omega
    refine ⟨_, false, restT (L.drop k), rfl, .inl ⟨rfl, hg, rfl, rfl, rfl⟩, ⟨v, k + (decT (L.drop k)).2.1.toNat, h1, by omega, by unfold restT; rw [List.drop_drop], ?_⟩, Oth.one _ _ _ _ _⟩
    rw [e1]
    exact ⟨⟨by go_simp, by go_simp, by go_simp⟩, by go_simp, by go_simp, by go_simp⟩
  · have hg' : b = true ∨ (decT (L.drop k)).2.2 ≠ 0 := by
      by_cases hbt : b = true
      · exact .inl hbt
      · exact .inr fun h => hg ⟨by simpa using hbt, h⟩
    refine (text_bad g L v k b w (h1.below hb) h2 c0 c1 c2 f2 hg').mono ?_
    rintro e w' ⟨rfl, m, rfl⟩
    exact ⟨⟨#[]⟩, true, L.drop k, rfl, .inr ⟨hg', rfl, rfl, rfl⟩, ⟨v, k, h1, h2, rfl, ⟨by go_simp, by go_simp, by go_simp⟩, by go_simp, by go_simp, by go_simp⟩, Oth.one _ _ _ _ _⟩
theorem restU_byt {R : List Int} (h : Byt R) : Byt (restU R) := h.drop _
theorem restT_byt {R : List Int} (h : Byt R) : Byt (restT R) := h.drop _
theorem rE_byt {R : List Int} (h : Byt R) : Byt (rE R) := restU_byt (restU_byt (restT_byt h))
/-- What is left, whether something was wrong, the entries, k of them read. -/
def rsE (R : List Int) : Nat → List Int
  | 0 => R
  | k + 1 => rE (rsE R k)
def flE (F : Bool) (R : List Int) : Nat → Bool
  | 0 => F
  | k + 1 => flE F R k || fE (rsE R k)
def esE (R : List Int) : Nat → List Ent
  | 0 => []
  | k + 1 => esE R k ++ [eE (rsE R k)]
theorem rsE_byt {R : List Int} (h : Byt R) : ∀ k, Byt (rsE R k)
  | 0 => h
  | k + 1 => rE_byt (rsE_byt h k)
theorem eE_ok {R : List Int} (h : Byt R) : (eE R).ok := by
  have h1 := (decT_bd h).2.2
  have h2 := decU_bd (restT_byt h)
  have h3 := decU_bd (restU_byt (restT_byt h))
  refine ⟨?_, ⟨?_, ?_⟩, ?_, ?_⟩
  · show (strOfNums (decT R).1).size ≤ maxLen
    rw [strOfNums_size]
    unfold maxLen
    omega
  all_goals
    simp only [eE]
    omega
theorem eE_pos {R : List Int} (h : Byt R) : 0 ≤ (eE R).c ∧ 0 ≤ (eE R).e := by
  have h2 := decU_bd (restT_byt h)
  have h3 := decU_bd (restU_byt (restT_byt h))
  exact ⟨h2.1, h3.1⟩
theorem esE_len (R : List Int) : ∀ k, (esE R k).length = k
  | 0 => rfl
  | k + 1 => by simp [esE, esE_len R k]
theorem esE_ok {R : List Int} (h : Byt R) : ∀ k, EOk (esE R k)
  | 0 => EOk.nil
  | k + 1 => (esE_ok h k).app (EOk.one (eE_ok (rsE_byt h k)))
theorem esE_at {R : List Int} {k : Nat} : ∀ {n : Nat}, k < n → (esE R n).getD k Ent.z = eE (rsE R k)
  | 0, h => by omega
  | n + 1, h => by
    by_cases hk : k < n
    · have := esE_at (R := R) hk
      simp only [esE]
      rw [← this]
      simp [List.getD, List.getElem?_append_left (show k < (esE R n).length by rw [esE_len]; exact hk)]
    · obtain rfl : k = n := by omega
      simp only [esE]
      simp [List.getD, List.getElem?_append_right (show (esE R k).length ≤ k by rw [esE_len]; omega), esE_len]
theorem flE_mono {F : Bool} {R : List Int} {k : Nat} : ∀ {n : Nat}, k ≤ n → flE F R k = true → flE F R n = true
  | 0, h, hf => by rw [show k = 0 from by omega] at hf; exact hf
  | n + 1, h, hf => by
    by_cases hk : k ≤ n
    · simp only [flE, flE_mono hk hf, Bool.true_or]
    · obtain rfl : k = n + 1 := by omega
      exact hf
/-- The head's numbers, what follows it, whether it was wrong. -/
def qS (L : List Int) : Int := (decU L).1
def qT (L : List Int) : Int := (decU (restU L)).1
def qX (L : List Int) : Int := (decU (restU (restU L))).1
def qN (L : List Int) : Int := (decU (restU (restU (restU L)))).1
def qR (L : List Int) : List Int := restU (restU (restU (restU L)))
def qF (L : List Int) : Bool := ((((false || (decU L).2.2 != 0) || (decU (restU L)).2.2 != 0) || (decU (restU (restU L))).2.2 != 0) || (decU (restU (restU (restU L)))).2.2 != 0)
/-- A summary's encoding. -/
def Ok9 (L : List Int) : Prop := qX L ≤ 1 ∧ qN L ≤ 32 ∧ flE (qF L) (qR L) (qN L).toNat = false ∧ rsE (qR L) (qN L).toNat = [] ∧ valE (qS L) (qT L) (esE (qR L) (qN L).toNat) = 0
instance (L : List Int) : Decidable (Ok9 L) := by unfold Ok9; infer_instance
def dec9 (L : List Int) : TP := if Ok9 L then ⟨qS L, qT L, esE (qR L) (qN L).toNat, qX L == 1⟩ else ⟨0, 0, [], false⟩
def err9 (L : List Int) : Int := if Ok9 L then 0 else 2
theorem dec9_no {L : List Int} (h : ¬ Ok9 L) : dec9 L = ⟨0, 0, [], false⟩ ∧ err9 L = 2 := ⟨if_neg h, if_neg h⟩
theorem dec9_yes {L : List Int} (h : Ok9 L) : dec9 L = ⟨qS L, qT L, esE (qR L) (qN L).toNat, qX L == 1⟩ ∧ err9 L = 0 := ⟨if_pos h, if_pos h⟩
theorem head9_byt {L : List Int} (h : Byt L) : Byt (qR L) := restU_byt (restU_byt (restU_byt (restU_byt h)))
theorem head9_bd {L : List Int} (h : Byt L) : (0 ≤ qS L ∧ qS L ≤ 4611686018427387904) ∧ (0 ≤ qT L ∧ qT L ≤ 4611686018427387904) ∧ (0 ≤ qX L ∧ qX L ≤ 4611686018427387904) ∧ 0 ≤ qN L ∧ qN L ≤ 4611686018427387904 := by
  have h0 := decU_bd h
  have h1 := decU_bd (restU_byt h)
  have h2 := decU_bd (restU_byt (restU_byt h))
  have h3 := decU_bd (restU_byt (restU_byt (restU_byt h)))
  unfold qS qT qX qN
  omega
/-- One reading of an entry with bounds. -/
def EntP (R : List Int) (b : Bool) (X : Ent) (b' : Bool) (R' : List Int) : Prop :=
  X.ok ∧ ((b = false ∧ b' = false ∧ X = eE R ∧ R' = rE R ∧ fE R = false) ∨ (b' = true ∧ (b = false → fE R = true ∨ 1099511627776 < (eE R).c ∨ 1099511627776 < (eE R).e)))
theorem EntP.of {R R1 R2 R3 : List Int} {b b1 b2 b3 : Bool} {x : ByteArray} {c e : Int} (hy : Byt R) (h1 : TxtP R b x b1 R1) (h2 : NumP R1 1099511627776 b1 c b2 R2) (h3 : NumP R2 1099511627776 b2 e b3 R3) : EntP R b ⟨x, c, e⟩ b3 R3 := by
  have hk := eE_ok hy
  have z := Ent.z_ok
  rcases h1 with ⟨rfl, a1, rfl, rfl, rfl⟩ | ⟨a1, rfl, rfl, rfl⟩
  · have y1 := restT_byt hy
    rcases h2 with ⟨-, a2, rfl, rfl, rfl⟩ | ⟨a2, rfl, rfl, rfl⟩
    · have g2 := numG_yes a2
      have y2 := restU_byt y1
      rcases h3 with ⟨-, a3, rfl, rfl, rfl⟩ | ⟨a3, rfl, rfl, rfl⟩
      · have g3 := numG_yes a3
        exact ⟨hk, .inl ⟨rfl, rfl, rfl, rfl, by unfold fE; simp [a1, g2.1, g3.1]⟩⟩
      · refine ⟨⟨hk.1, hk.2.1, z.2.2⟩, .inr ⟨rfl, fun _ => ?_⟩⟩
        rcases a3 with h | h
        · cases h
        · rcases numG_no h with h | h
          · exact .inl (by unfold fE; simp [h])
          · exact .inr (.inr h)
    · have hn : NumP (restT R) 1099511627776 false 0 true (restT R) := .inr ⟨a2, rfl, rfl, rfl⟩
      have he : e = 0 ∧ b3 = true := by
        rcases h3 with ⟨h, _⟩ | ⟨_, h, h', _⟩
        · cases h
        · exact ⟨h, h'⟩
      obtain ⟨rfl, rfl⟩ := he
      refine ⟨⟨hk.1, z.2.1, z.2.2⟩, .inr ⟨rfl, fun _ => ?_⟩⟩
      rcases a2 with h | h
      · cases h
      · rcases numG_no h with h | h
        · exact .inl (by unfold fE; simp [h])
        · exact .inr (.inl h)
  · have hc : c = 0 ∧ b2 = true := by
      rcases h2 with ⟨h, _⟩ | ⟨_, h, h', _⟩
      · cases h
      · exact ⟨h, h'⟩
    obtain ⟨rfl, rfl⟩ := hc
    have he : e = 0 ∧ b3 = true := by
      rcases h3 with ⟨h, _⟩ | ⟨_, h, h', _⟩
      · cases h
      · exact ⟨h, h'⟩
    obtain ⟨rfl, rfl⟩ := he
    refine ⟨z, .inr ⟨rfl, fun hb => ?_⟩⟩
    rcases a1 with h | h
    · rw [hb] at h; cases h
    · exact .inl (by unfold fE; simp [h])
/-- What is wrong at an entry is wrong. -/
theorem ok9_ent {L : List Int} {k : Nat} (hk : k < (qN L).toNat) (h : fE (rsE (qR L) k) = true ∨ 1099511627776 < (eE (rsE (qR L) k)).c ∨ 1099511627776 < (eE (rsE (qR L) k)).e) : ¬ Ok9 L := by
  rintro ⟨_, _, h3, _, h5⟩
  have hv := (valE_ok h5).ent k (by rw [esE_len]; exact hk)
  rw [esE_at hk] at hv
  have he := entE_zero hv
  rcases h with h | h | h
  · have : flE (qF L) (qR L) (k + 1) = true := by simp [flE, h]
    rw [flE_mono (Nat.succ_le_of_lt hk) this] at h3
    cases h3
  · omega
  · omega
theorem ok9_head {L : List Int} (h : qF L = true ∨ 32 < qS L ∨ 1099511627776 < qT L ∨ 1 < qX L ∨ 32 < qN L) : ¬ Ok9 L := by
  rintro ⟨h1, h2, h3, _, h5⟩
  have hv := valE_ok h5
  have a1 := hv.s1
  have a2 := hv.t1
  rcases h with h | h | h | h | h
  · have h0 : flE (qF L) (qR L) 0 = true := h
    rw [flE_mono (Nat.zero_le _) h0] at h3
    cases h3
  all_goals omega
/-- The head, read with bounds. -/
theorem head9 {L R1 R2 R3 R4 : List Int} {b1 b2 b3 b4 : Bool} {s t x n : Int} (hy : Byt L) (h1 : NumP L 32 false s b1 R1) (h2 : NumP R1 1099511627776 b1 t b2 R2) (h3 : NumP R2 1 b2 x b3 R3) (h4 : NumP R3 32 b3 n b4 R4) :
    (b4 = false ∧ s = qS L ∧ t = qT L ∧ x = qX L ∧ n = qN L ∧ R4 = qR L ∧ qF L = false ∧ qS L ≤ 32 ∧ qT L ≤ 1099511627776 ∧ qX L ≤ 1 ∧ qN L ≤ 32) ∨ (b4 = true ∧ n = 0 ∧ ¬ Ok9 L) := by
  have bad : ∀ {R R' : List Int} {M n : Int} {b : Bool}, NumP R M true n b R' → n = 0 ∧ b = true := fun h => by
    rcases h with ⟨h, _⟩ | ⟨_, h, h', _⟩
    · cases h
    · exact ⟨h, h'⟩
  rcases h1 with ⟨-, a1, rfl, rfl, rfl⟩ | ⟨a1, rfl, rfl, rfl⟩
  · have g1 := numG_yes a1
    rcases h2 with ⟨-, a2, rfl, rfl, rfl⟩ | ⟨a2, rfl, rfl, rfl⟩
    · have g2 := numG_yes a2
      rcases h3 with ⟨-, a3, rfl, rfl, rfl⟩ | ⟨a3, rfl, rfl, rfl⟩
      · have g3 := numG_yes a3
        rcases h4 with ⟨-, a4, rfl, rfl, rfl⟩ | ⟨a4, rfl, rfl, rfl⟩
        · have g4 := numG_yes a4
          exact .inl ⟨rfl, rfl, rfl, rfl, rfl, rfl, by unfold qF; simp [g1.1, g2.1, g3.1, g4.1], g1.2, g2.2, g3.2, g4.2⟩
        · refine .inr ⟨rfl, rfl, ?_⟩
          rcases a4 with h | h
          · cases h
          · rcases numG_no h with h | h
            · exact ok9_head (.inl (by unfold qF; simp [h]))
            · exact ok9_head (.inr (.inr (.inr (.inr h))))
      · obtain ⟨rfl, rfl⟩ := bad h4
        refine .inr ⟨rfl, rfl, ?_⟩
        rcases a3 with h | h
        · cases h
        · rcases numG_no h with h | h
          · exact ok9_head (.inl (by unfold qF; simp [h]))
          · exact ok9_head (.inr (.inr (.inr (.inl h))))
    · obtain ⟨rfl, rfl⟩ := bad h3
      obtain ⟨rfl, rfl⟩ := bad h4
      refine .inr ⟨rfl, rfl, ?_⟩
      rcases a2 with h | h
      · cases h
      · rcases numG_no h with h | h
        · exact ok9_head (.inl (by unfold qF; simp [h]))
        · exact ok9_head (.inr (.inr (.inl h)))
  · obtain ⟨rfl, rfl⟩ := bad h2
    obtain ⟨rfl, rfl⟩ := bad h3
    obtain ⟨rfl, rfl⟩ := bad h4
    refine .inr ⟨rfl, rfl, ?_⟩
    rcases a1 with h | h
    · cases h
    · rcases numG_no h with h | h
      · exact ok9_head (.inl (by unfold qF; simp [h]))
      · exact ok9_head (.inr (.inl h))
/-- What is encoded reads back. -/
theorem restU_app {n : Nat} (hn : n ≤ 4611686018427387904) (R : List Int) : restU (uintB n ++ R) = R := by
  unfold restU
  rw [decU_back hn R]
  simp
theorem restT_app {B : List Int} (hB : B.length ≤ 65536) (R : List Int) : restT (textB B ++ R) = R := by
  unfold restT
  rw [decT_back hB R]
  simp
theorem ent_app {x : Ent} (h : entE x = 0) (R : List Int) : eE (entB x ++ R) = x ∧ rE (entB x ++ R) = R ∧ fE (entB x ++ R) = false := by
  obtain ⟨k, c, e⟩ := x
  have he := entE_zero h
  have hk := keyB_len he.1
  dsimp only at he hk
  have e1 : entB ⟨k, c, e⟩ ++ R = textB (byt k) ++ (uintB c.toNat ++ (uintB e.toNat ++ R)) := by simp [entB, List.append_assoc]
  have t1 := decT_back hk (uintB c.toNat ++ (uintB e.toNat ++ R))
  have t2 := restT_app hk (uintB c.toNat ++ (uintB e.toNat ++ R))
  have t3 := decU_back (n := c.toNat) (by omega) (uintB e.toNat ++ R)
  have t4 := restU_app (n := c.toNat) (by omega) (uintB e.toNat ++ R)
  have t5 := decU_back (n := e.toNat) (by omega) R
  have t6 := restU_app (n := e.toNat) (by omega) R
  rw [e1]
  refine ⟨?_, ?_, ?_⟩
  · unfold eE
    rw [t2, t4, t1, t3, t5]
    dsimp only
    rw [str_byt, Int.toNat_of_nonneg (by omega), Int.toNat_of_nonneg (by omega)]
  · unfold rE
    rw [t2, t4, t6]
  · unfold fE
    rw [t2, t4, t1, t3, t5]
    rfl
theorem ents_app : ∀ {L : List Ent}, (∀ x ∈ L, entE x = 0) → ∀ k, k ≤ L.length → ∀ F, rsE (entsB L) k = entsB (L.drop k) ∧ esE (entsB L) k = L.take k ∧ flE F (entsB L) k = F := by
  intro L h k
  induction k with
  | zero => exact fun _ _ => ⟨rfl, by simp [esE], rfl⟩
  | succ k ih =>
    intro hk F
    obtain ⟨i1, i2, i3⟩ := ih (by omega) F
    have hd : L.drop k = L[k] :: L.drop (k + 1) := List.drop_eq_getElem_cons (by omega)
    have hb : rsE (entsB L) k = entB L[k] ++ entsB (L.drop (k + 1)) := by rw [i1, hd]; unfold entsB; rw [List.flatMap_cons]
    obtain ⟨a1, a2, a3⟩ := ent_app (h L[k] (List.getElem_mem _)) (entsB (L.drop (k + 1)))
    refine ⟨?_, ?_, ?_⟩
    · show rE (rsE (entsB L) k) = _
      rw [hb, a2]
    · show esE (entsB L) k ++ [eE (rsE (entsB L) k)] = _
      rw [hb, a1, i2, List.take_succ_eq_append_getElem (by omega)]
    · show (flE F (entsB L) k || fE (rsE (entsB L) k)) = _
      rw [hb, a3, i3, Bool.or_false]
theorem dec9_cod {S T : Int} {L : List Ent} (s : Bool) (h : valE S T L = 0) : dec9 (cod9 S T L s) = ⟨S, T, L, s⟩ ∧ err9 (cod9 S T L s) = 0 := by
  have hv := valE_ok h
  have a0 := hv.s0
  have a1 := hv.s1
  have a2 := hv.t0
  have a3 := hv.t1
  have a4 := hv.small
  have hall : ∀ x ∈ L, entE x = 0 := fun x hx => by
    obtain ⟨i, hi, rfl⟩ := List.mem_iff_getElem.1 hx
    have := hv.ent i hi
    simpa [List.getD, hi] using this
  have hfl : flagN s ≤ 1 := by unfold flagN; split <;> omega
  have hc : cod9 S T L s = uintB S.toNat ++ (uintB T.toNat ++ (uintB (flagN s) ++ (uintB L.length ++ entsB L))) := by unfold cod9 hdB; rw [if_pos h]; simp only [List.append_assoc]
  rw [hc]
  have r1 := restU_app (n := S.toNat) (by omega) (uintB T.toNat ++ (uintB (flagN s) ++ (uintB L.length ++ entsB L)))
  have r2 := restU_app (n := T.toNat) (by omega) (uintB (flagN s) ++ (uintB L.length ++ entsB L))
  have r3 := restU_app (n := flagN s) (by omega) (uintB L.length ++ entsB L)
  have r4 := restU_app (n := L.length) (by omega) (entsB L)
  have d1 := decU_back (n := S.toNat) (by omega) (uintB T.toNat ++ (uintB (flagN s) ++ (uintB L.length ++ entsB L)))
  have d2 := decU_back (n := T.toNat) (by omega) (uintB (flagN s) ++ (uintB L.length ++ entsB L))
  have d3 := decU_back (n := flagN s) (by omega) (uintB L.length ++ entsB L)
  have d4 := decU_back (n := L.length) (by omega) (entsB L)
  generalize hE : uintB S.toNat ++ (uintB T.toNat ++ (uintB (flagN s) ++ (uintB L.length ++ entsB L))) = Z at *
  have k1 : qS Z = S := by unfold qS; rw [d1]; simp only; omega
  have k2 : qT Z = T := by unfold qT; rw [r1, d2]; simp only; omega
  have k3 : qX Z = (flagN s : Int) := by unfold qX; rw [r1, r2, d3]
  have k4 : qN Z = (L.length : Int) := by unfold qN; rw [r1, r2, r3, d4]
  have k5 : qR Z = entsB L := by unfold qR; rw [r1, r2, r3, r4]
  have k6 : qF Z = false := by unfold qF; rw [r1, r2, r3, d1, d2, d3, d4]; rfl
  obtain ⟨e1, e2, e3⟩ := ents_app hall L.length (Nat.le_refl _) false
  have hok : Ok9 Z := by
    refine ⟨by rw [k3]; omega, by rw [k4]; omega, ?_, ?_, ?_⟩
    · rw [k4, k5, k6, Int.toNat_natCast]; exact e3
    · rw [k4, k5, Int.toNat_natCast, e1, List.drop_length]; rfl
    · rw [k1, k2, k4, k5, Int.toNat_natCast, e2, List.take_length]; exact h
  obtain ⟨y1, y2⟩ := dec9_yes hok
  rw [y1, y2, k1, k2, k3, k4, k5, Int.toNat_natCast, e2, List.take_length]
  exact ⟨by cases s <;> rfl, rfl⟩
/-- The state of Decode: the result's cells, the reader, the summary under way. -/
def DL (W : World) (g9 : Nat) (S T : Int) (v : Value) (s : Bool) (R : List Int) (F : Bool) (w : World) : Prop :=
  TopS W.heap.size 0 0 (.slice none 0 0) false w ∧ DS W (W.heap.size + 1) R F w ∧ TopS g9 S T v s w ∧ Below W.heap.size W w ∧ W.heap.size + 2 ≤ g9
section
variable {W w w' : World} {g9 : Nat} {S T : Int} {v : Value} {s : Bool} {R R' : List Int} {F F' : Bool}
theorem DL.top (h : DL W g9 S T v s R F w) : TopS g9 S T v s w := h.2.2.1
theorem DL.res (h : DL W g9 S T v s R F w) : TopS W.heap.size 0 0 (.slice none 0 0) false w := h.1
theorem DL.ds (h : DL W g9 S T v s R F w) : DS W (W.heap.size + 1) R F w := h.2.1
theorem DL.bel (h : DL W g9 S T v s R F w) : Below W.heap.size W w := h.2.2.2.1
theorem DL.room (h : DL W g9 S T v s R F w) : W.heap.size + 2 ≤ g9 ∧ g9 < w.heap.size := ⟨h.2.2.2.2, h.2.2.1.lt⟩
theorem DL.keep (h : DL W g9 S T v s R F w) (hb : Below (g9 + 1) w w') : DL W g9 S T v s R F w' := by
  obtain ⟨h1, h2, h3, h4, h5⟩ := h
  exact ⟨h1.keep (hb.block _ (by omega)), h2.keep (hb.block _ (by omega)), h3.keep (hb.block _ (by omega)), h4.trans (hb.mono (by omega)), h5⟩
theorem DL.go (h : DL W g9 S T v s R F w) (hb : Below w.heap.size w w') : DL W g9 S T v s R F w' := h.keep (hb.mono h.room.2)
theorem DL.drew (h : DL W g9 S T v s R F w) : DL W g9 S T v s R F w.drew := h.go (Below.refl _ _).drew
theorem DL.turn (h : DL W g9 S T v s R F w) (ho : One (W.heap.size + 1) w w') (hd : DS W (W.heap.size + 1) R' F' w') : DL W g9 S T v s R' F' w' := by
  obtain ⟨h1, h2, h3, h4, h5⟩ := h
  exact ⟨h1.keep (ho.2.2 _ h1.lt (by omega)), hd, h3.keep (ho.2.2 _ h3.lt (by omega)), h4.trans (ho.1.mono (by omega)), h5⟩
theorem DL.put (h : DL W g9 S T v s R F w) (a : Option Addr) (n c : Nat) : DL W g9 S T (.slice a n c) s R F (w.setCell ⟨g9, 2, none⟩ (.slice a n c)) := by
  obtain ⟨h1, h2, ⟨⟨p0, p1, p2, p3⟩, f0, f1, f2, f3⟩, h4, h5⟩ := h
  exact ⟨h1.keep (Below.heap_setCell _ ⟨g9, 2, none⟩ _ _ (by show W.heap.size ≠ g9; omega)), h2.keep (Below.heap_setCell _ ⟨g9, 2, none⟩ _ _ (by show W.heap.size + 1 ≠ g9; omega)), ⟨⟨by go_simp, by go_simp, by go_simp, by go_simp⟩, by go_simp, by go_simp, by go_simp, by go_simp⟩, h4.setCell (p := ⟨g9, 2, none⟩) (by show W.heap.size ≤ g9; omega) _, h5⟩
end
set_option maxRecDepth 100000 in
set_option maxHeartbeats 4000000 in
theorem tdec_any (L : List Int) (v : Value) (w : World) (h : Rd L v w) :
    Calls Try.prog 24 #[v] w fun e w' => ∃ u, e = .returned (.tuple #[u, .int .i64 (err9 L)]) ∧ OwnT w.heap.size (dec9 L) u w' ∧ Below w.heap.size w w' := by
  obtain ⟨a, len, cap, rfl⟩ : ∃ a len cap, v = .slice a len cap := by
    obtain ⟨_, a, cap, hv, _⟩ := h
    exact ⟨a, _, cap, hv⟩
  have C0 := Lib.hid ((TopS.new 0 0 (.slice none 0 0) false 25 w).below (b1 (.cells #[.slice a len cap, .bool false] 88)) (by simp))
  have D0 : Hid (DS w (w.heap.size + 1) L false ((w.alloc (.cells #[.int .i64 0, .int .i64 0, .slice none 0 0, .bool false] 25)).alloc (.cells #[.slice a len cap, .bool false] 88))) :=
    Lib.hid ⟨.slice a len cap, ⟨⟨by go_simp, by go_simp⟩, by go_simp, by go_simp⟩, h⟩
  have B0 := Lib.hid (b2 (a := w) (.cells #[.int .i64 0, .int .i64 0, .slice none 0 0, .bool false] 25) (.cells #[.slice a len cap, .bool false] 88))
  have HBD := Lib.hid (head9_bd h.1)
  have HBY := Lib.hid (head9_byt h.1)
  have HNO := Lib.hid (dec9_no (L := L))
  have HYE := Lib.hid (dec9_yes (L := L))
  have HOK := Lib.hid (show Ok9 L ↔ qX L ≤ 1 ∧ qN L ≤ 32 ∧ flE (qF L) (qR L) (qN L).toNat = false ∧ rsE (qR L) (qN L).toNat = [] ∧ valE (qS L) (qT L) (esE (qR L) (qN L).toNat) = 0 from Iff.rfl)
  clear h
  generalize dec9 L = RES at *
  generalize err9 L = REE at *
  generalize Ok9 L = OK at *
  go_enter Try.func24, Try.ntmps24
  go_wp2_with fail
  go_at_call 56
  refine (dnum_any D0.out B0.out).mono ?_
  rintro e w2 ⟨rfl, hd2, ho2⟩
  have D2 := Lib.hid hd2
  have B2 := Lib.hid (B0.out.trans (ho2.1.mono (Nat.le_succ _)))
  have C2 := Lib.hid (C0.out.keep (ho2.2 _ (by omega)))
  clear hd2 ho2 D0 B0 C0
  go_wp2_with fail
  go_at_call 56
  refine (dnum_any D2.out B2.out).mono ?_
  rintro e w3 ⟨rfl, hd3, ho3⟩
  have D3 := Lib.hid hd3
  have B3 := Lib.hid (B2.out.trans (ho3.1.mono (Nat.le_succ _)))
  have C3 := Lib.hid (C2.out.keep (ho3.2 _ (by omega)))
  clear hd3 ho3 D2 B2 C2
  go_wp2_with fail
  go_at_call 56
  refine (dnum_any D3.out B3.out).mono ?_
  rintro e w4 ⟨rfl, hd4, ho4⟩
  have D4 := Lib.hid hd4
  have B4 := Lib.hid (B3.out.trans (ho4.1.mono (Nat.le_succ _)))
  have C4 := Lib.hid (C3.out.keep (ho4.2 _ (by omega)))
  clear hd4 ho4 D3 B3 C3
  go_wp2_with fail
  go_at_call 56
  refine (dnum_any D4.out B4.out).mono ?_
  rintro e w5 ⟨rfl, hd5, ho5⟩
  have D5 := Lib.hid (show DS w (w.heap.size + 1) (qR L) (qF L) w5 from hd5)
  have B5 := Lib.hid (B4.out.trans (ho5.1.mono (Nat.le_succ _)))
  have C5 := Lib.hid (C4.out.keep (ho5.2 _ (by omega)))
  clear hd5 ho5 D4 B4 C4
  rw [show (decU L).1 = qS L from rfl, show (decU (restU L)).1 = qT L from rfl, show (decU (restU (restU L))).1 = qX L from rfl, show (decU (restU (restU (restU L)))).1 = qN L from rfl]
  generalize qS L = S at *
  generalize qT L = T at *
  generalize qX L = x at *
  generalize qN L = n at *
  generalize qF L = F at *
  generalize qR L = R at *
  obtain ⟨⟨s0, s1⟩, ⟨t0, t1⟩, ⟨x0, x1⟩, n0, n1⟩ := HBD.out
  by_cases hx : 1 < x ∨ 32 < n
  · obtain ⟨e1, e2⟩ := HNO.out (fun h => by have := HOK.out.1 h; omega)
    subst e1 e2
    obtain ⟨⟨p0, p1, p2, p3⟩, f0, f1, f2, f3⟩ := C5.out
    clear HBD HBY HNO HYE HOK D5 C5
    rcases hx with hx | hx
    all_goals
      go_wp2
    all_goals
      refine bodyPost_ret (v := .tuple #[.agg #[.int .i64 0, .int .i64 0, .slice none 0 0, .bool false], .int .i64 2]) (by simp [results, Try.results24, go_sem, *]) rfl ⟨_, rfl, ⟨none, 0, 0, rfl, OwnE.empty _ _⟩, ?_⟩
      exact bsetB (bsetB (bsetB (bsetB B5.out _ _ _ (Nat.le_refl _)) _ _ _ (Nat.le_refl _)) _ _ _ (Nat.le_refl _)) _ _ _ (Nat.le_refl _)
  · obtain ⟨N, rfl⟩ : ∃ N : Nat, n = (N : Int) := ⟨n.toNat, by omega⟩
    rw [Int.toNat_natCast] at HOK HYE
    have hx1 : x ≤ 1 := by omega
    have hN : N ≤ 32 := by omega
    have HNB := Lib.hid (And.intro hx1 hN)
    have HSB := Lib.hid (⟨⟨s0, s1⟩, t0, t1⟩ : (0 ≤ S ∧ S ≤ 4611686018427387904) ∧ 0 ≤ T ∧ T ≤ 4611686018427387904)
    have HI : Hid (∃ v, DL w w5.heap.size S T v (x == 1) (rsE R 0) (flE F R 0) (w5.alloc (.cells #[.int .i64 S, .int .i64 T, .slice none 0 0, .bool (x == 1)] 25)) ∧ OwnE (w5.heap.size + 1) (esE R 0) v (w5.alloc (.cells #[.int .i64 S, .int .i64 T, .slice none 0 0, .bool (x == 1)] 25))) :=
      Lib.hid ⟨.slice none 0 0, ⟨C5.out.below (b1 _) C5.out.lt, D5.out.keep (Below.heap_alloc _ _ _ D5.out.size), TopS.new _ _ _ _ _ _, bal B5.out _, D5.out.size⟩, OwnE.empty _ _⟩
    have hx2 : ¬ 1 < x := by omega
    have hN2 : ¬ (32 : Int) < (N : Int) := by omega
    clear hx hx1 hN HBD B5 C5 D5 s0 s1 t0 t1 x0 x1 n0 n1
    go_wp2
    clear hx2 hN2
    go_loopw [29] (fun i wr => ∃ k : Nat, k ≤ N ∧ i = .int .i64 (k : Int) ∧ Hid (∃ v, DL w w5.heap.size S T v (x == 1) (rsE R k) (flE F R k) wr ∧ OwnE (w5.heap.size + 1) (esE R k) v wr)) (fun i _ => N - (intOf i).toNat)
    case atStart => exact ⟨0, by omega, rfl, HI⟩
    case round =>
      clear HI
      obtain ⟨k, hk, rfl, HI⟩ := hrel
      obtain ⟨v, hdl, hov⟩ := HI.out
      obtain ⟨a1, cap1, rfl⟩ := hov.rd.shape
      rw [esE_len] at hdl hov
      have DL0 := Lib.hid hdl
      have OV0 := Lib.hid hov
      clear HI hdl hov
      by_cases hlt : k < N
      · have hlt2 : (k : Int) < (N : Int) := by omega
        have HLN : Hid ((esE R k).length + [eE (rsE R k)].length ≤ 1099511627776) := Lib.hid (by have := HNB.out; rw [esE_len, List.length_singleton]; omega)
        have HEO := Lib.hid (eE_ok (rsE_byt HBY.out k))
        have DL1 := Lib.hid DL0.out.drew
        have OV1 := Lib.hid (show OwnE (w5.heap.size + 1) (esE R k) (.slice a1 k cap1) wr.drew from OV0.out)
        have HW : Hid (w.heap.size ≤ w.heap.size + 1) := Lib.hid (Nat.le_succ _)
        have HRM := Lib.hid DL0.out.room
        have hc : wr.drew.cell? ⟨w5.heap.size, 2, none⟩ = some (.slice a1 k cap1) := DL1.out.top.1.2.2.1
        clear DL0 OV0
        go_wp2
        go_region_law (first
          | (go_simp; go_at_call 57; (with_reducible refine (dent_any DL1.out.ds DL1.out.bel HW.out).mono ?_); rintro e w6 ⟨rfl, hd6, ho6⟩; have DL6 := Lib.hid (DL1.out.turn ho6 hd6); have OV6 := Lib.hid (OV1.out.turn ho6 (by have := HRM.out; omega)); have t6 := DL6.out.top.1.2.2.1; have t7 := (DL6.out.go (b1 (.cells #[.string (eE (rsE R k)).k, .int .i64 (eE (rsE R k)).c, .int .i64 (eE (rsE R k)).e] 49))).top.1.2.2.1; clear hd6 ho6)
          | (refine step_appE rfl _ _ _ rfl (w5.heap.size + 1) (esE R k) [eE (rsE R k)] _ _ rfl rfl (OV6.out.alloc _) (OwnE.one HEO.out w6).rd.src (by have := DL6.out.room; simp; omega) HLN.out ?_; (intro v9 w9 ho9 hb9; obtain ⟨a9, cap9, rfl⟩ := ho9.rd.shape; have OV9 := Lib.hid ho9; have DL9 := Lib.hid ((DL6.out.go (b1 _)).keep hb9); obtain ⟨⟨-, -, q2, -⟩, -, -, y2, -⟩ := DL9.out.top; clear ho9 hb9)))
        all_goals
          have HD : Hid (∃ v, DL w w5.heap.size S T v (x == 1) (rsE R (k + 1)) (flE F R (k + 1)) (w9.setCell ⟨w5.heap.size, 2, none⟩ (.slice a9 ((esE R k).length + 1) cap9)) ∧ OwnE (w5.heap.size + 1) (esE R (k + 1)) v (w9.setCell ⟨w5.heap.size, 2, none⟩ (.slice a9 ((esE R k).length + 1) cap9))) :=
            Lib.hid ⟨_, DL9.out.put a9 ((esE R k).length + 1) cap9, by have h := OV9.out.keep (Nat.lt_succ_self w5.heap.size) 2 (.slice a9 ((esE R k).length + 1) cap9); rw [List.length_append, List.length_singleton] at h; exact h⟩
          clear OV9 DL9 q2 y2
          go_wp2
          exact ⟨⟨k + 1, by omega, by go_num, HD⟩, by simp [intOf]; omega⟩
      · obtain rfl : k = N := by omega
        have hnlt : ¬ (k : Int) < (k : Int) := by omega
        obtain ⟨v8, ⟨⟨z0, z1⟩, -⟩, hrd8⟩ := DL0.out.ds
        obtain ⟨-, a8, cp8, rfl, hl8, hm8, -⟩ := hrd8
        obtain ⟨⟨p0, p1, p2, p3⟩, f0, f1, f2, f3⟩ := DL0.out.res
        obtain ⟨⟨q0, q1, q2, q3⟩, y0, y1, y2, y3⟩ := DL0.out.top
        have HB := Lib.hid DL0.out.bel
        have HRM := Lib.hid DL0.out.room
        by_cases hF : flE F R k = true
        · obtain ⟨e1, e2⟩ := HNO.out (fun h => by have := (HOK.out.1 h).2.2.1; rw [hF] at this; cases this)
          subst e1 e2
          rw [hF] at z1
          clear HNO HYE HOK HBY DL0 OV0 hF HSB
          go_wp2
          refine bodyPost_ret (v := .tuple #[.agg #[.int .i64 0, .int .i64 0, .slice none 0 0, .bool false], .int .i64 2]) (by simp [results, Try.results24, go_sem, *]) rfl ⟨_, rfl, ⟨none, 0, 0, rfl, OwnE.empty _ _⟩, ?_⟩
          exact bsetB (bsetB (bsetB (bsetB HB.out _ _ _ (Nat.le_refl _)) _ _ _ (Nat.le_refl _)) _ _ _ (Nat.le_refl _)) _ _ _ (Nat.le_refl _)
        · have hF2 : flE F R k = false := by simpa using hF
          rw [hF2] at z1
          by_cases hR : rsE R k = []
          · have hL8 : (rsE R k).length = 0 := by rw [hR]; rfl
            rw [hL8] at z0
            have HV := Lib.hid (pval_any S T (esE R k) (x == 1) a1 k cap1 wr (by have := HSB.out; omega) (by have := HSB.out; omega) (by have := HSB.out; omega) (by have := HSB.out; omega) OV0.out.rd (by have := HNB.out; rw [esE_len]; omega))
            by_cases hE : valE S T (esE R k) = 0
            · obtain ⟨e1, e2⟩ := HYE.out (HOK.out.2 ⟨HNB.out.1, by have := HNB.out.2; omega, hF2, hR, hE⟩)
              have HRS := Lib.hid e1
              subst e2
              rw [hE] at HV
              clear HNO HYE HOK HBY hF hF2 hR hE hL8 hl8 hm8 e1
              go_wp2_with (go_at_call 17; (with_reducible refine HV.out.mono ?_); rintro e w10 ⟨rfl, hb10⟩; clear HB p0 p1 p2 p3 f0 f1 f2 f3 q0 q1 q2 q3 y0 y1 y2 y3; have DL10 := Lib.hid (DL0.out.go hb10); have OV10 := Lib.hid (OV0.out.below hb10); have HB := Lib.hid DL10.out.bel; obtain ⟨⟨p0, p1, p2, p3⟩, f0, f1, f2, f3⟩ := DL10.out.res; obtain ⟨⟨q0, q1, q2, q3⟩, y0, y1, y2, y3⟩ := DL10.out.top; clear hb10)
              refine bodyPost_ret (v := .tuple #[.agg #[.int .i64 S, .int .i64 T, .slice a1 k cap1, .bool (x == 1)], .int .i64 0]) (by simp [results, Try.results24, go_sem, *]) rfl ⟨_, rfl, ⟨a1, k, cap1, by rw [HRS.out], ?_⟩, ?_⟩
              · rw [HRS.out]
                have hlt9 : w.heap.size < w5.heap.size + 1 := by have := HRM.out; omega
                exact (((((OV10.out.keep hlt9 0 _).keep hlt9 1 _).keep hlt9 2 _).keep hlt9 3 _)).mono (Nat.le_of_lt hlt9)
              · exact bsetB (bsetB (bsetB (bsetB HB.out _ _ _ (Nat.le_refl _)) _ _ _ (Nat.le_refl _)) _ _ _ (Nat.le_refl _)) _ _ _ (Nat.le_refl _)
            · obtain ⟨e1, e2⟩ := HNO.out (fun h => hE (HOK.out.1 h).2.2.2.2)
              subst e1 e2
              have hE2 : (valE S T (esE R k) != 0) = true := by simpa using hE
              generalize valE S T (esE R k) = E at *
              clear HNO HYE HOK HBY hF hF2 hR hE hL8 hl8 hm8 OV0
              go_wp2_with (go_at_call 17; (with_reducible refine HV.out.mono ?_); rintro e w10 ⟨rfl, hb10⟩; clear HB p0 p1 p2 p3 f0 f1 f2 f3 q0 q1 q2 q3 y0 y1 y2 y3; have DL10 := Lib.hid (DL0.out.go hb10); have HB := Lib.hid DL10.out.bel; obtain ⟨⟨p0, p1, p2, p3⟩, f0, f1, f2, f3⟩ := DL10.out.res; clear hb10)
              refine bodyPost_ret (v := .tuple #[.agg #[.int .i64 0, .int .i64 0, .slice none 0 0, .bool false], .int .i64 2]) (by simp [results, Try.results24, go_sem, *]) rfl ⟨_, rfl, ⟨none, 0, 0, rfl, OwnE.empty _ _⟩, ?_⟩
              exact bsetB (bsetB (bsetB (bsetB HB.out _ _ _ (Nat.le_refl _)) _ _ _ (Nat.le_refl _)) _ _ _ (Nat.le_refl _)) _ _ _ (Nat.le_refl _)
          · obtain ⟨e1, e2⟩ := HNO.out (fun h => hR (HOK.out.1 h).2.2.2.1)
            subst e1 e2
            have hL8 : (0 : Int) < ((rsE R k).length : Int) := by
              have := List.length_pos_iff.2 hR
              omega
            generalize (rsE R k).length = l8 at *
            clear HNO HYE HOK HBY hF hF2 hR OV0 DL0
            go_wp2
            refine bodyPost_ret (v := .tuple #[.agg #[.int .i64 0, .int .i64 0, .slice none 0 0, .bool false], .int .i64 2]) (by simp [results, Try.results24, go_sem, *]) rfl ⟨_, rfl, ⟨none, 0, 0, rfl, OwnE.empty _ _⟩, ?_⟩
            exact bsetB (bsetB (bsetB (bsetB HB.out _ _ _ (Nat.le_refl _)) _ _ _ (Nat.le_refl _)) _ _ _ (Nat.le_refl _)) _ _ _ (Nat.le_refl _)
/-- What is known while the entries are read. -/
def RTl (L : List Int) (s t x n : Int) (C : List Ent) (b : Bool) (R : List Int) (k : Nat) : Prop :=
  (b = true → ¬ Ok9 L) ∧ (b = false → s = qS L ∧ t = qT L ∧ x = qX L ∧ n = qN L ∧ qX L ≤ 1 ∧ qN L ≤ 32 ∧ C = esE (qR L) k ∧ R = rsE (qR L) k ∧ flE (qF L) (qR L) k = false)
theorem RTl.start {L R1 R2 R3 R4 : List Int} {b1 b2 b3 b4 : Bool} {s t x n : Int} (hy : Byt L) (h1 : NumP L 32 false s b1 R1) (h2 : NumP R1 1099511627776 b1 t b2 R2) (h3 : NumP R2 1 b2 x b3 R3) (h4 : NumP R3 32 b3 n b4 R4) : RTl L s t x n [] b4 R4 0 := by
  rcases head9 hy h1 h2 h3 h4 with ⟨rfl, a1, a2, a3, a4, a5, a6, _, _, a9, a10⟩ | ⟨rfl, _, h⟩
  · exact ⟨fun h => (by cases h), fun _ => ⟨a1, a2, a3, a4, a9, a10, rfl, a5, a6⟩⟩
  · exact ⟨fun _ => h, fun h => (by cases h)⟩
theorem RTl.step {L R R' : List Int} {s t x n : Int} {C : List Ent} {X : Ent} {b b' : Bool} {k : Nat} (h : RTl L s t x n C b R k) (hb : b = false) (hk : (k : Int) < n) (hE : EntP R b X b' R') : RTl L s t x n (C ++ [X]) b' R' (k + 1) := by
  obtain ⟨a1, a2, a3, a4, a5, a6, a7, a8, a9⟩ := h.2 hb
  rcases hE.2 with ⟨_, rfl, rfl, rfl, hf⟩ | ⟨rfl, hw⟩
  · refine ⟨fun h => (by cases h), fun _ => ⟨a1, a2, a3, a4, a5, a6, by rw [a7, a8]; rfl, by rw [a8]; rfl, ?_⟩⟩
    show (flE (qF L) (qR L) k || fE (rsE (qR L) k)) = false
    rw [a9, ← a8, hf]
    rfl
  · refine ⟨fun _ => ?_, fun h => (by cases h)⟩
    have := hw hb
    rw [a8] at this
    exact ok9_ent (by omega) this
theorem RTl.fin {L R : List Int} {s t x n : Int} {C : List Ent} {b : Bool} {k : Nat} (h : RTl L s t x n C b R k) (hk : b = true ∨ ¬ (k : Int) < n) (hk2 : (k : Int) ≤ n) :
    ((b = true ∨ R ≠ [] ∨ valE s t C ≠ 0) → ¬ Ok9 L) ∧ (b = false → R = [] → valE s t C = 0 → Ok9 L ∧ dec9 L = ⟨s, t, C, x == 1⟩) := by
  by_cases hb : b = true
  · exact ⟨fun _ => h.1 hb, fun h' => (by rw [hb] at h'; cases h')⟩
  · have hb : b = false := by simpa using hb
    have hkn := hk.resolve_left (by rw [hb]; simp)
    obtain ⟨a1, a2, a3, a4, a5, a6, a7, a8, a9⟩ := h.2 hb
    have e : (qN L).toNat = k := by omega
    refine ⟨fun hw hok => ?_, fun _ h1 h2 => ?_⟩
    · obtain ⟨o1, o2, o3, o4, o5⟩ := hok
      rw [e] at o3 o4 o5
      rcases hw with h | h | h
      · rw [hb] at h; cases h
      · exact h (a8.trans o4)
      · exact h (by rw [a1, a2, a7]; exact o5)
    · have hok : Ok9 L := ⟨a5, a6, by rw [e]; exact a9, by rw [e, ← a8]; exact h1, by rw [e, ← a7, ← a1, ← a2]; exact h2⟩
      exact ⟨hok, by rw [(dec9_yes hok).1, e, ← a7, ← a1, ← a2, ← a3]⟩
/-- The state of DecodeTop: the result's cells, the reader, the summary under way. -/
def RDl (W : World) (g9 : Nat) (L : List Int) (S T : Int) (v : Value) (s : Bool) (b : Bool) (R : List Int) (w : World) : Prop :=
  TopS W.heap.size 0 0 (.slice none 0 0) false w ∧ RS W (W.heap.size + 1) L R b w ∧ TopS g9 S T v s w ∧ Below W.heap.size W w ∧ W.heap.size + 2 ≤ g9
section
variable {W w w' : World} {g9 : Nat} {L : List Int} {S T : Int} {v : Value} {s b b' : Bool} {R R' : List Int}
theorem RDl.top (h : RDl W g9 L S T v s b R w) : TopS g9 S T v s w := h.2.2.1
theorem RDl.res (h : RDl W g9 L S T v s b R w) : TopS W.heap.size 0 0 (.slice none 0 0) false w := h.1
theorem RDl.rs (h : RDl W g9 L S T v s b R w) : RS W (W.heap.size + 1) L R b w := h.2.1
theorem RDl.bel (h : RDl W g9 L S T v s b R w) : Below W.heap.size W w := h.2.2.2.1
theorem RDl.room (h : RDl W g9 L S T v s b R w) : W.heap.size + 2 ≤ g9 ∧ g9 < w.heap.size := ⟨h.2.2.2.2, h.2.2.1.lt⟩
theorem RDl.keep (h : RDl W g9 L S T v s b R w) (hb : Below (g9 + 1) w w') : RDl W g9 L S T v s b R w' := by
  obtain ⟨h1, h2, h3, h4, h5⟩ := h
  exact ⟨h1.keep (hb.block _ (by omega)), h2.keep (hb.block _ (by omega)), h3.keep (hb.block _ (by omega)), h4.trans (hb.mono (by omega)), h5⟩
theorem RDl.go (h : RDl W g9 L S T v s b R w) (hb : Below w.heap.size w w') : RDl W g9 L S T v s b R w' := h.keep (hb.mono h.room.2)
theorem RDl.drew (h : RDl W g9 L S T v s b R w) : RDl W g9 L S T v s b R w.drew := h.go (Below.refl _ _).drew
theorem RDl.turn (h : RDl W g9 L S T v s b R w) (ho : One (W.heap.size + 1) w w') (hd : RS W (W.heap.size + 1) L R' b' w') : RDl W g9 L S T v s b' R' w' := by
  obtain ⟨h1, h2, h3, h4, h5⟩ := h
  exact ⟨h1.keep (ho.2.2 _ h1.lt (by omega)), hd, h3.keep (ho.2.2 _ h3.lt (by omega)), h4.trans (ho.1.mono (by omega)), h5⟩
theorem RDl.put (h : RDl W g9 L S T v s b R w) (a : Option Addr) (n c : Nat) : RDl W g9 L S T (.slice a n c) s b R (w.setCell ⟨g9, 2, none⟩ (.slice a n c)) := by
  obtain ⟨h1, h2, ⟨⟨p0, p1, p2, p3⟩, f0, f1, f2, f3⟩, h4, h5⟩ := h
  exact ⟨h1.keep (Below.heap_setCell _ ⟨g9, 2, none⟩ _ _ (by show W.heap.size ≠ g9; omega)), h2.keep (Below.heap_setCell _ ⟨g9, 2, none⟩ _ _ (by show W.heap.size + 1 ≠ g9; omega)), ⟨⟨by go_simp, by go_simp, by go_simp, by go_simp⟩, by go_simp, by go_simp, by go_simp, by go_simp⟩, h4.setCell (p := ⟨g9, 2, none⟩) (by show W.heap.size ≤ g9; omega) _, h5⟩
end
set_option maxRecDepth 100000 in
set_option maxHeartbeats 4000000 in
theorem rtdec_any (L : List Int) (v : Value) (w : World) (h : Rd L v w) :
    Calls Try.prog 25 #[v] w fun e w' => ∃ u, e = .returned (.tuple #[u, .int .i64 (err9 L)]) ∧ OwnT w.heap.size (dec9 L) u w' ∧ Below w.heap.size w w' := by
  obtain ⟨a, len, cap, rfl⟩ : ∃ a len cap, v = .slice a len cap := by
    obtain ⟨_, a, cap, hv, _⟩ := h
    exact ⟨a, _, cap, hv⟩
  have C0 := Lib.hid ((TopS.new 0 0 (.slice none 0 0) false 25 w).below (b1 (.cells #[.slice a len cap, .int .i64 0, .bool false] 93)) (by simp))
  have D0 : Hid (RS w (w.heap.size + 1) L L false ((w.alloc (.cells #[.int .i64 0, .int .i64 0, .slice none 0 0, .bool false] 25)).alloc (.cells #[.slice a len cap, .int .i64 0, .bool false] 93))) :=
    Lib.hid ⟨.slice a len cap, 0, h, Nat.zero_le _, rfl, ⟨by go_simp, by go_simp, by go_simp⟩, by go_simp, by go_simp, by go_simp⟩
  have B0 := Lib.hid (b2 (a := w) (.cells #[.int .i64 0, .int .i64 0, .slice none 0 0, .bool false] 25) (.cells #[.slice a len cap, .int .i64 0, .bool false] 93))
  have HBY := Lib.hid h.1
  have HNO := Lib.hid (dec9_no (L := L))
  have HYE := Lib.hid (fun h => (dec9_yes (L := L) h).2)
  clear h
  obtain ⟨RES, hRES⟩ : ∃ r, dec9 L = r := ⟨_, rfl⟩
  obtain ⟨REE, hREE⟩ : ∃ r, err9 L = r := ⟨_, rfl⟩
  rw [hRES, hREE] at HNO
  rw [hREE] at HYE
  rw [hRES, hREE]
  have HRES := Lib.hid hRES
  clear hRES hREE
  go_enter Try.func25, Try.ntmps25
  go_wp2_with fail
  go_at_call 58
  refine (rnum_any 32 (by decide) (by decide) D0.out B0.out).mono ?_
  rintro e w2 ⟨n1, f1, R1, rfl, hp1, hd2, ho2⟩
  have D2 := Lib.hid hd2
  have B2 := Lib.hid (B0.out.trans (ho2.1.mono (Nat.le_succ _)))
  have C2 := Lib.hid (C0.out.keep (ho2.2 _ (by omega)))
  have hbd1 := hp1.bd D0.out.byt (by decide)
  clear hd2 ho2 D0 B0 C0
  go_wp2_with fail
  go_at_call 58
  refine (rnum_any 1099511627776 (by decide) (by decide) D2.out B2.out).mono ?_
  rintro e w3 ⟨n2, f2, R2, rfl, hp2, hd3, ho3⟩
  have D3 := Lib.hid hd3
  have B3 := Lib.hid (B2.out.trans (ho3.1.mono (Nat.le_succ _)))
  have C3 := Lib.hid (C2.out.keep (ho3.2 _ (by omega)))
  have hbd2 := hp2.bd D2.out.byt (by decide)
  clear hd3 ho3 D2 B2 C2
  go_wp2_with fail
  go_at_call 58
  refine (rnum_any 1 (by decide) (by decide) D3.out B3.out).mono ?_
  rintro e w4 ⟨x, f3, R3, rfl, hp3, hd4, ho4⟩
  have D4 := Lib.hid hd4
  have B4 := Lib.hid (B3.out.trans (ho4.1.mono (Nat.le_succ _)))
  have C4 := Lib.hid (C3.out.keep (ho4.2 _ (by omega)))
  have hbd3 := hp3.bd D3.out.byt (by decide)
  have HP := Lib.hid (And.intro hp1 (And.intro hp2 hp3))
  have H4 : Hid (RDl w w4.heap.size L n1 n2 (.slice none 0 0) (x == 1) f3 R3 (w4.alloc (.cells #[.int .i64 n1, .int .i64 n2, .slice none 0 0, .bool (x == 1)] 25))) :=
    Lib.hid ⟨C4.out.below (b1 _) C4.out.lt, D4.out.keep (Below.heap_alloc _ _ _ D4.out.size), TopS.new _ _ _ _ _ _, bal B4.out _, D4.out.size⟩
  clear hd4 ho4 D3 B3 C3 hp1 hp2 hp3 D4 B4 C4
  go_wp2_with fail
  go_at_call 58
  refine (rnum_any 32 (by decide) (by decide) H4.out.rs H4.out.bel).mono ?_
  rintro e w5 ⟨n, b, R, rfl, hp5, hd5, ho5⟩
  have HI : Hid (RDl w w4.heap.size L n1 n2 (.slice none 0 0) (x == 1) b R w5 ∧ OwnE (w4.heap.size + 1) [] (.slice none 0 0) w5) := Lib.hid ⟨H4.out.turn ho5.turn hd5, OwnE.empty _ _⟩
  have HK := Lib.hid (RTl.start HBY.out HP.out.1 HP.out.2.1 HP.out.2.2 hp5)
  have hbd4 := hp5.bd H4.out.rs.byt (by decide)
  clear hp5 hd5 ho5 H4 HP
  go_wp2
  go_loopw [7] (fun i wr => ∃ (k : Nat) (C : List Ent) (b : Bool) (R : List Int) (a : Option Addr) (c : Nat), (k : Int) ≤ n ∧ Hid (C.length = k) ∧ i = .int .i64 (k : Int) ∧ Hid (RDl w w4.heap.size L n1 n2 (.slice a k c) (x == 1) b R wr ∧ OwnE (w4.heap.size + 1) C (.slice a k c) wr) ∧ Hid (RTl L n1 n2 x n C b R k)) (fun i _ => 33 - (intOf i).toNat)
  case atStart => exact ⟨0, [], b, R, none, 0, by omega, Lib.hid rfl, rfl, HI, HK⟩
  case round =>
    clear HI HK b R
    obtain ⟨k, C, b, R, a5, c5, hk, hC, rfl, HI, HK⟩ := hrel
    have hC2 := hC.out
    subst hC2
    clear hC
    have HRM := Lib.hid HI.out.1.room
    obtain ⟨⟨q0, q1, q2, q3⟩, y0, y1, y2, y3⟩ := HI.out.1.top
    obtain ⟨vr, kr, _, _, _, ⟨⟨r0, r1, r2⟩, _⟩⟩ := HI.out.1.rs
    by_cases hgo : (C.length : Int) < n ∧ b = false
    · obtain ⟨hlt, rfl⟩ := hgo
      have DL1 := Lib.hid HI.out.1.drew
      have OV1 := Lib.hid (show OwnE (w4.heap.size + 1) C (.slice a5 C.length c5) wr.drew from HI.out.2)
      have HLN : Hid (C.length + 1 ≤ 1099511627776) := Lib.hid (by omega)
      clear HI
      go_wp2
      clear r0 r1 r2
      go_region_law (first
        | (go_simp; go_at_call 59; (with_reducible refine (rtxt_any DL1.out.rs DL1.out.bel).mono ?_); rintro e w6 ⟨x6, b6, R6, rfl, hp6, hd6, ho6⟩; have HP6 := Lib.hid hp6; have DL6 := Lib.hid (DL1.out.turn ho6.turn hd6); have OV6 := Lib.hid (OV1.out.turn ho6.turn (by have := HRM.out; omega)); have t6 := DL6.out.top.1.2.2.1; clear hp6 hd6 ho6)
        | (go_simp; go_at_call 58; (with_reducible refine (rnum_any 1099511627776 (by decide) (by decide) DL7.out.rs DL7.out.bel).mono ?_); rintro e w8 ⟨e8, b8, R8, rfl, hp8, hd8, ho8⟩; have HEP := Lib.hid (EntP.of DL1.out.rs.byt HP6.out HP7.out hp8); have DL8 := Lib.hid (DL7.out.turn ho8.turn hd8); have OV8 := Lib.hid (OV7.out.turn ho8.turn (by have := HRM.out; omega)); have t8 := DL8.out.top.1.2.2.1; have t9 := (DL8.out.go (b1 (.cells #[.string x6, .int .i64 c7, .int .i64 e8] 49))).top.1.2.2.1; clear hp8 hd8 ho8)
        | (go_simp; go_at_call 58; (with_reducible refine (rnum_any 1099511627776 (by decide) (by decide) DL6.out.rs DL6.out.bel).mono ?_); rintro e w7 ⟨c7, b7, R7, rfl, hp7, hd7, ho7⟩; have HP7 := Lib.hid hp7; have DL7 := Lib.hid (DL6.out.turn ho7.turn hd7); have OV7 := Lib.hid (OV6.out.turn ho7.turn (by have := HRM.out; omega)); have t7 := DL7.out.top.1.2.2.1; clear hp7 hd7 ho7)
        | (refine step_appE rfl _ _ _ rfl (w4.heap.size + 1) C [(⟨x6, c7, e8⟩ : Ent)] _ _ rfl rfl (OV8.out.alloc _) (OwnE.one HEP.out.1 w8).rd.src (by have := DL8.out.room; simp; omega) HLN.out ?_; (intro v9 w9 ho9 hb9; obtain ⟨a9, cap9, rfl⟩ := ho9.rd.shape; have OV9 := Lib.hid ho9; have DL9 := Lib.hid ((DL8.out.go (b1 _)).keep hb9); obtain ⟨⟨-, -, z2, -⟩, -, -, x2, -⟩ := DL9.out.top; clear ho9 hb9)))
      all_goals
        have HD : Hid (RDl w w4.heap.size L n1 n2 (.slice a9 (C.length + 1) cap9) (x == 1) b8 R8 (w9.setCell ⟨w4.heap.size, 2, none⟩ (.slice a9 (C.length + 1) cap9)) ∧ OwnE (w4.heap.size + 1) (C ++ [(⟨x6, c7, e8⟩ : Ent)]) (.slice a9 (C.length + 1) cap9) (w9.setCell ⟨w4.heap.size, 2, none⟩ (.slice a9 (C.length + 1) cap9))) :=
          Lib.hid ⟨DL9.out.put a9 (C.length + 1) cap9, by have h := OV9.out.keep (Nat.lt_succ_self w4.heap.size) 2 (.slice a9 (C.length + 1) cap9); rw [List.length_append, List.length_singleton] at h; exact h⟩
        have HK9 := Lib.hid (RTl.step HK.out rfl hlt HEP.out)
        have hm : 33 - (C.length + 1) < 33 - C.length := by omega
        clear OV9 DL9 z2 x2 HK
        go_wp2
        exact ⟨⟨C.length + 1, C ++ [(⟨x6, c7, e8⟩ : Ent)], b8, R8, a9, cap9, by omega, Lib.hid (by rw [List.length_append, List.length_singleton]), by go_num, HD, HK9⟩, by simp [intOf]; omega⟩
    · have HEX := Lib.hid (show b = true ∨ ¬ (C.length : Int) < n from by
        by_cases hbt : b = true
        · exact .inl hbt
        · exact .inr (fun h => hgo ⟨h, by simpa using hbt⟩))
      have hgo2 : ¬ (C.length : Int) < n ∨ (C.length : Int) < n ∧ b = true := by
        by_cases hlt : (C.length : Int) < n
        · exact .inr ⟨hlt, HEX.out.resolve_right (fun h => h hlt)⟩
        · exact .inl hlt
      have HF := Lib.hid (RTl.fin HK.out HEX.out hk)
      have hdn : ((!b && R.isEmpty) = true ∧ b = false ∧ R = []) ∨ ((!b && R.isEmpty) = false ∧ (b = true ∨ R ≠ [])) := by
        cases b
        · cases R with
          | nil => exact .inl ⟨rfl, rfl, rfl⟩
          | cons a l => exact .inr ⟨rfl, .inr (by simp)⟩
        · exact .inr ⟨rfl, .inl rfl⟩
      have HDN := Lib.hid hdn
      have HDO := Lib.hid (rdone_any HI.out.1.rs HI.out.1.bel)
      clear hgo hdn HK HEX
      rcases hgo2 with hlt | ⟨hlt, rfl⟩
      all_goals
        go_wp2_with fail
        go_at_call 60
        (with_reducible refine HDO.out.mono ?_)
        rintro e w9 ⟨rfl, m, hm9⟩
        have I9 : Hid (RDl w w4.heap.size L n1 n2 (.slice a5 C.length c5) (x == 1) _ R w9 ∧ OwnE (w4.heap.size + 1) C (.slice a5 C.length c5) w9) := Lib.hid (by rw [hm9]; exact ⟨HI.out.1.go (below_drewN (Below.refl _ _) m), HI.out.2⟩)
        clear hm9 HI HDO q0 q1 q2 q3 y0 y1 y2 y3 r0 r1 r2
        obtain ⟨⟨q0, q1, q2, q3⟩, y0, y1, y2, y3⟩ := I9.out.1.top
        obtain ⟨⟨p0, p1, p2, p3⟩, f0, f1, f2, f3⟩ := I9.out.1.res
        have HB := Lib.hid I9.out.1.bel
        rcases HDN.out with ⟨hdn, hb', hR'⟩ | ⟨hdn, hbad⟩
        · have HV := Lib.hid (rval_any n1 n2 C (x == 1) a5 C.length c5 w9 (by omega) (by omega) (by omega) (by omega) I9.out.2.rd (by omega))
          by_cases hE : valE n1 n2 C = 0
          · obtain ⟨hok, hdc⟩ := HF.out.2 hb' hR' hE
            have HRS := Lib.hid (HRES.out.symm.trans hdc)
            have e2 := HYE.out hok
            subst e2
            rw [hE] at HV
            rw [hdn]
            clear hE hok hdc hdn hb' hR' HDN HF HNO HYE HRES
            go_wp2_with (go_at_call 18; (with_reducible refine HV.out.mono ?_); rintro e w10 ⟨rfl, hb10⟩; clear HB p0 p1 p2 p3 f0 f1 f2 f3 q0 q1 q2 q3 y0 y1 y2 y3; have DL10 := Lib.hid (I9.out.1.go hb10); have OV10 := Lib.hid (I9.out.2.below hb10); have HB := Lib.hid DL10.out.bel; obtain ⟨⟨p0, p1, p2, p3⟩, f0, f1, f2, f3⟩ := DL10.out.res; obtain ⟨⟨q0, q1, q2, q3⟩, y0, y1, y2, y3⟩ := DL10.out.top; clear hb10)
            refine bodyPost_ret (v := .tuple #[.agg #[.int .i64 n1, .int .i64 n2, .slice a5 C.length c5, .bool (x == 1)], .int .i64 0]) (by simp [results, Try.results25, go_sem, *]) rfl ⟨_, rfl, ⟨a5, C.length, c5, by rw [HRS.out], ?_⟩, ?_⟩
            · rw [HRS.out]
              have hlt9 : w.heap.size < w4.heap.size + 1 := by have := HRM.out; omega
              exact (((((OV10.out.keep hlt9 0 _).keep hlt9 1 _).keep hlt9 2 _).keep hlt9 3 _)).mono (Nat.le_of_lt hlt9)
            · exact bsetB (bsetB (bsetB (bsetB HB.out _ _ _ (Nat.le_refl _)) _ _ _ (Nat.le_refl _)) _ _ _ (Nat.le_refl _)) _ _ _ (Nat.le_refl _)
          · obtain ⟨e1, e2⟩ := HNO.out (HF.out.1 (.inr (.inr hE)))
            subst e1 e2
            have hE2 : (valE n1 n2 C != 0) = true := by simpa using hE
            rw [hdn]
            generalize valE n1 n2 C = E at *
            clear hE hdn hb' hR' HDN HF HNO HYE HRES
            go_wp2_with (go_at_call 18; (with_reducible refine HV.out.mono ?_); rintro e w10 ⟨rfl, hb10⟩; clear HB p0 p1 p2 p3 f0 f1 f2 f3 q0 q1 q2 q3 y0 y1 y2 y3; have DL10 := Lib.hid (I9.out.1.go hb10); have HB := Lib.hid DL10.out.bel; obtain ⟨⟨p0, p1, p2, p3⟩, f0, f1, f2, f3⟩ := DL10.out.res; clear hb10)
            refine bodyPost_ret (v := .tuple #[.agg #[.int .i64 0, .int .i64 0, .slice none 0 0, .bool false], .int .i64 2]) (by simp [results, Try.results25, go_sem, *]) rfl ⟨_, rfl, ⟨none, 0, 0, rfl, OwnE.empty _ _⟩, ?_⟩
            exact bsetB (bsetB (bsetB (bsetB HB.out _ _ _ (Nat.le_refl _)) _ _ _ (Nat.le_refl _)) _ _ _ (Nat.le_refl _)) _ _ _ (Nat.le_refl _)
        · obtain ⟨e1, e2⟩ := HNO.out (HF.out.1 (by rcases hbad with h | h; exact .inl h; exact .inr (.inl h)))
          subst e1 e2
          rw [hdn]
          clear hdn hbad HDN HF HNO HYE HRES
          go_wp2
          refine bodyPost_ret (v := .tuple #[.agg #[.int .i64 0, .int .i64 0, .slice none 0 0, .bool false], .int .i64 2]) (by simp [results, Try.results25, go_sem, *]) rfl ⟨_, rfl, ⟨none, 0, 0, rfl, OwnE.empty _ _⟩, ?_⟩
          exact bsetB (bsetB (bsetB (bsetB HB.out _ _ _ (Nat.le_refl _)) _ _ _ (Nat.le_refl _)) _ _ _ (Nat.le_refl _)) _ _ _ (Nat.le_refl _)
end Go.Proofs.Ytcmekpdgikploaa
