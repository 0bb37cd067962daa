/- The contracts of bytes.Join, bytes.Equal, pages.Join and of the reference's Join. -/
import Derived.Test.YtbppdbfjhdhehaaPgS
import Derived.Lib.SlFresh
namespace Go.Proofs.Ytbppdbfjhdhehaa
open Go.RowKit
set_option linter.unusedVariables false
set_option linter.unusedSimpArgs false
theorem bytesOf_inj {L M : List Int} (hL : Byt L) (hM : Byt M) (h : Lib.bytesOf L = Lib.bytesOf M) : L = M := by
  have e : ∀ {L : List Int}, Byt L → (Lib.bytesOf L).map (fun b => (b.toNat : Int)) = L := by
    intro L hL
    unfold Lib.bytesOf
    rw [List.map_map]
    have : ∀ n ∈ L, ((fun b : UInt8 => (b.toNat : Int)) ∘ fun n : Int => UInt8.ofNat n.toNat) n = n := fun n hn => by
      have := hL n hn
      simp only [Function.comp, UInt8.toNat_ofNat']
      omega
    rw [List.map_congr_left this]
    simp
  rw [← e hL, ← e hM, h]
theorem bytesOf_len (L : List Int) : (Lib.bytesOf L).length = L.length := by simp [Lib.bytesOf]
theorem bytesOf_flat (Z : List (List Int)) : (Z.map Lib.bytesOf).flatten = Lib.bytesOf Z.flatten := by
  unfold Lib.bytesOf
  rw [List.map_flatten]
theorem fresh_rd {B : Nat} {w : World} {v : Value} {L : List Int} (hy : Byt L) (h : Lib.FreshBytes B w v (Lib.bytesOf L)) : Rd L v w := by
  obtain ⟨g, cap, zs, rfl, hg, h1, h2, h3, h4, h5, h6, h7⟩ := h
  rw [bytesOf_len] at h1 h5 ⊢
  have hz : zs.take L.length = L := bytesOf_inj (fun n hn => by have := h4 n (List.mem_of_mem_take hn); omega) hy h5
  have hget : ∀ j, j < L.length → zs.getD j 0 = L.getD j 0 := fun j hj => by
    conv => rhs; rw [← hz]
    simp only [List.getD, List.getElem?_take]
    rw [if_pos hj]
  refine ⟨hy, some ⟨g, 0, none⟩, cap, rfl, h1, h2, fun hp => ⟨g, 0, rfl, ?_, fun j hj => ?_⟩⟩
  · exact Go.block_lt_of_cell (h6 0 (by omega))
  · rw [Nat.zero_add, h6 j (by omega), hget j hj]
theorem rd_holds {L : List Int} {v : Value} {w : World} (h : Rd L v w) : Lib.HoldsBytes w v (Lib.bytesOf L) := by
  obtain ⟨hy, a, cap, rfl, h1, h2, h3⟩ := h
  refine ⟨a, cap, by rw [bytesOf_len], fun ha => ?_, fun ad ha i x hx => ?_⟩
  · by_cases hp : 0 < L.length
    · obtain ⟨b, off, he, _⟩ := h3 hp
      rw [ha] at he
      cases he
    · have : L = [] := List.eq_nil_of_length_eq_zero (by omega)
      rw [this]
      rfl
  · have hi : i < L.length := by
      have := (List.getElem?_eq_some_iff.1 hx).1
      rwa [bytesOf_len] at this
    obtain ⟨b, off, he, _, hc⟩ := h3 (by omega)
    rw [ha] at he
    cases he
    rw [Addr.add_lit, hc i hi]
    have hb := hy.at_ i
    have e : x = UInt8.ofNat (L.getD i 0).toNat := by
      have : (Lib.bytesOf L)[i]? = some (UInt8.ofNat (L.getD i 0).toNat) := by simp [Lib.bytesOf, List.getD, hi]
      rw [this] at hx
      exact (Option.some.inj hx).symm
    rw [e]
    simp only [UInt8.toNat_ofNat']
    congr 2
    omega
theorem rdPs_byt {Z : List (List Int)} {v : Value} {w : World} (h : RdPs Z v w) : ∀ L ∈ Z, Byt L := by
  obtain ⟨us, -, h1, h2⟩ := h
  intro L hL
  obtain ⟨j, hj, rfl⟩ := List.getElem_of_mem hL
  have := (h2 j hj).1
  simpa [List.getD, hj] using this
theorem lens_flat (Z : List (List Int)) : Lib.lens (Z.map Lib.bytesOf) = Z.flatten.length := by
  unfold Lib.lens
  rw [List.map_map, List.length_flatten]
  congr 1
  exact List.map_congr_left (fun L _ => bytesOf_len L)
/-- bytes.Join without a separator. -/
theorem bjoin_any (Z : List (List Int)) (v : Value) (w : World) (h : RdPs Z v w) (h0 : Z.length ≤ 140737488355328) (h1 : Z.flatten.length ≤ 140737488355328) :
    Calls Try.prog 22 #[v, .slice none 0 0] w fun e w' => ∃ v', e = .returned v' ∧ Rd Z.flatten v' w' ∧ Below w.heap.size w w' := by
  have hy := flat_byt (rdPs_byt h)
  obtain ⟨us, ⟨ho, a, cap, rfl, h2, h3, h4⟩, h5, h6⟩ := h
  match Z, h5 with
  | [], h5 =>
    rw [h5]
    refine (Try.bytes_Join_none a cap (.slice none 0 0) w).mono ?_
    rintro e w' ⟨rfl, rfl⟩
    exact ⟨_, rfl, ⟨Byt.nil, _, 0, rfl, Nat.le_refl _, by simp [maxLen], fun hp => by simp at hp⟩, b1 _⟩
  | [L], h5 =>
    have hl : us.length = 1 := h5
    obtain ⟨b, off, rfl, hb, hc⟩ := h4 (by omega)
    have hr := h6 0 (by simp)
    have hc0 := hc 0 (by omega)
    obtain ⟨hb8, p0, c0, he, g1, g2, g3⟩ := hr
    simp only [List.getD_cons_zero, Nat.add_zero] at he hc0 g1 g3 hb8
    rw [he] at hc0
    simp only [List.flatten_cons, List.flatten_nil, List.append_nil] at h1 ⊢
    rw [hl]
    by_cases hp : 0 < L.length
    · obtain ⟨b', off', rfl, hb', hcc⟩ := g3 hp
      have hcc' : w.cell? ⟨b, off, none⟩ = some (.slice (some ⟨b', off', none⟩) (Lib.bytesOf L).length c0) := by rw [bytesOf_len]; exact hc0
      have hh := rd_holds (L := L) (v := .slice (some ⟨b', off', none⟩) L.length c0) (w := w) ⟨hb8, _, c0, rfl, g1, g2, g3⟩
      obtain ⟨p, c, hv, -, hcell⟩ := hh
      simp only [Value.slice.injEq] at hv
      obtain ⟨rfl, -, rfl⟩ := hv
      refine (Try.bytes_Join_one b off cap ⟨b', off', none⟩ c0 (Lib.bytesOf L) (.slice none 0 0) w hcc' (hcell _ rfl) (by rw [bytesOf_len]; exact hp) (by rw [bytesOf_len]; exact h1)).mono ?_
      rintro e w' ⟨v', rfl, hf, hbel⟩
      exact ⟨v', rfl, fresh_rd hb8 hf, hbel⟩
    · have hn : L = [] := List.eq_nil_of_length_eq_zero (by omega)
      subst hn
      refine (Try.bytes_Join_one_empty b off cap p0 c0 (.slice none 0 0) w hc0).mono ?_
      rintro e w' ⟨rfl, rfl⟩
      exact ⟨_, rfl, (Own.empty 0 _).rd, Below.refl _ _⟩
  | L1 :: L2 :: Z, h5 =>
    obtain ⟨b, off, rfl, hb, hc⟩ := h4 (by rw [h5]; simp)
    have hpa : Lib.PartsAt w ⟨b, off, none⟩ us ((L1 :: L2 :: Z).map Lib.bytesOf) := by
      refine ⟨by rw [List.length_map, h5], fun i u hu => ?_, fun i u l hu hl => ?_⟩
      · have hi := (List.getElem?_eq_some_iff.1 hu).1
        rw [Addr.add_lit, hc i hi, ← hu]
        simp [List.getD, hi]
      · have hi := (List.getElem?_eq_some_iff.1 hu).1
        have hr := rd_holds (h6 i (by omega))
        have e1 : us.getD i nilP = u := by simp [List.getD, hu]
        rw [List.getElem?_map] at hl
        obtain ⟨M, hM, rfl⟩ := Option.map_eq_some_iff.1 hl
        have e2 : (L1 :: L2 :: Z).getD i [] = M := by simp [List.getD, hM]
        rw [e1, e2] at hr
        exact hr
    refine (Try.bytes_Join_many b off us.length cap us _ (.slice none 0 0) [] w (by rw [List.length_map, h5]) (by rw [h5]; simp) hpa h2 ⟨none, 0, rfl, fun _ => rfl, fun a ha => by cases ha⟩ (by omega) (by rw [lens_flat]; simp only [List.length_nil, Nat.zero_mul, Nat.add_zero]; exact h1)).mono ?_
    rintro e w' ⟨v', rfl, hf, hbel⟩
    have ej : Lib.join ((L1 :: L2 :: Z).map Lib.bytesOf) [] = Lib.bytesOf (L1 :: L2 :: Z).flatten := by
      rw [← bytesOf_flat]
      unfold Lib.join
      generalize (L1 :: L2 :: Z).map Lib.bytesOf = q
      unfold List.intercalate
      induction q with
      | nil => rfl
      | cons x r ih => cases r with
        | nil => rfl
        | cons y r => simp only [List.intersperse, List.flatten_cons, List.nil_append] at ih ⊢; rw [ih]
    rw [ej] at hf
    exact ⟨v', rfl, fresh_rd hy hf, hbel⟩
theorem pjoin_any (Z : List (List Int)) (v : Value) (w : World) (h : RdPs Z v w) (h0 : Z.length ≤ 140737488355328) (h1 : Z.flatten.length ≤ 140737488355328) :
    Calls Try.prog 13 #[v] w fun e w' => ∃ v', e = .returned v' ∧ Rd Z.flatten v' w' ∧ Below w.heap.size w w' := by
  have HJ := Lib.hid (bjoin_any Z v w h h0 h1)
  clear h h0 h1
  go_enter Try.func13, Try.ntmps13
  go_wp2_with (go_at_call 22; refine (HJ.out).mono ?_; rintro e w' ⟨v', rfl, ho, hb⟩; have HO := Lib.hid ho; have HB := Lib.hid hb; clear ho hb)
  go_ret
  exact ⟨_, rfl, HO.out, HB.out⟩
set_option maxRecDepth 100000 in
set_option maxHeartbeats 1000000 in
theorem rjoin_any (Z : List (List Int)) (v : Value) (w : World) (h : RdPs Z v w) (h1 : Z.flatten.length ≤ 140737488355328) :
    Calls Try.prog 14 #[v] w fun e w' => ∃ v', e = .returned v' ∧ Rd Z.flatten v' w' ∧ Below w.heap.size w w' := by
  obtain ⟨a, cap, rfl⟩ := h.shape
  have H := Lib.hid h
  have hl : (Z.length : Int) ≤ 9223372036854775807 := by
    obtain ⟨us, ⟨_, a', cap', he, g1, g2, _⟩, g3, _⟩ := h
    unfold maxLen at g2
    omega
  have H1 := Lib.hid h1
  clear h h1
  go_enter Try.func14, Try.ntmps14
  go_wp2
  go_loopw [3, 4] (fun vl i wr => ∃ k : Nat, k ≤ Z.length ∧ i = .int .i64 (k : Int) ∧ Hid (Own w.heap.size (Z.take k).flatten vl wr) ∧ Hid (Below w.heap.size w wr)) (fun _ i _ => Z.length - (intOf i).toNat)
  case atStart => exact ⟨0, by omega, rfl, Lib.hid (Own.empty _ _), Lib.hid (Below.refl _ _)⟩
  case round =>
    obtain ⟨k, hk, rfl, HO, HB⟩ := hrel
    by_cases hlt : k < Z.length
    · obtain ⟨b, off, u, m, c, rfl, -, hb, hc, hr, hm⟩ := (H.out.below HB.out).at_ hlt
      have HS := Lib.hid (show (Z.take (k + 1)).flatten = (Z.take k).flatten ++ Z.getD k [] by
        rw [List.take_succ_eq_append_getElem hlt, List.flatten_append]
        simp [List.getD, hlt])
      have HL := Lib.hid (show ((Z.take k).flatten ++ Z.getD k []).length ≤ 140737488355328 by
        rw [← HS.out]
        refine Nat.le_trans ?_ H1.out
        rw [show Z.flatten = (Z.take (k + 1)).flatten ++ (Z.drop (k + 1)).flatten by rw [← List.flatten_append, List.take_append_drop], List.length_append]
        omega)
      have HR := Lib.hid hr
      have hki : (k : Int) < (Z.length : Int) := by omega
      clear hr hm
      generalize Z.getD k [] = M at *
      generalize (Z.take k).flatten = A at *
      go_wp2_with (at_builtin; refine wp_app rfl _ (.tmp 15) _ rfl w.heap.size A M _ _ rfl rfl HO.out HR.out.src HB.out.size (by have := HL.out; simp at this; omega) ?_; intro v2 w2 ho hb2; have HO2 := Lib.hid ho; have HB2 := Lib.hid (HB.out.trans hb2); clear ho hb2)
      go_roundw
      case rel => exact ⟨k + 1, by omega, by go_num, Lib.hid (by rw [HS.out]; exact HO2.out), HB2⟩
      case measure => simp [intOf]; omega
    · obtain rfl : k = Z.length := by omega
      have HT := Lib.hid (List.take_length (l := Z))
      go_wp2
      go_ret
      exact ⟨_, rfl, by have := HO.out.rd; rwa [HT.out] at this, HB.out⟩
end Go.Proofs.Ytbppdbfjhdhehaa
