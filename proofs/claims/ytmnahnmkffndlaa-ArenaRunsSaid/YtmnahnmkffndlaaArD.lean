/- The contract of Dump: the pages in ascending order. -/
import Derived.Test.YtmnahnmkffndlaaArA
import Derived.Test.YtmnahnmkffndlaaPmK
import Derived.Test.YtmnahnmkffndlaaIntRow
import Derived.Test.YtmnahnmkffndlaaIter
namespace Go.Proofs.Ytmnahnmkffndlaa
open Go.RowKit Go.Maps Go.Sort
set_option linter.unusedVariables false
set_option linter.unusedSimpArgs false
theorem sortsK (m : Nat) : AnyZI.SortsIn Try.prog Try.sortedA_ren Fence.wide m :=
  ⟨fun blk off cap ss W hH hblk hsz => callsIn_wide.2 (AnyM.slices_Sort_int Try.sortA blk off cap ss W hH hblk hsz),
   fun p cap W => callsIn_wide.2 (AnyM.slices_Sort_int_none Try.sortA p cap W)⟩
theorem keysK (mb : Option Nat) (W : World) : Calls Try.prog 26 #[.map mb] W fun e w' => e = .returned (.func (.func 29) #[] #[.pointer (some ⟨W.heap.size, 0, none⟩)]) ∧ w' = W.alloc (.cells #[.map mb] 56) :=
  callsIn_wide.1 (AnyZI.keys_in Try.keysA Fence.wide 5 trivial rfl mb W)
theorem asc_pw : ∀ {L : List Pg} {m : Int}, AscP m L → (L.map (·.n)).Pairwise (fun x y => x < y)
  | [], _, _ => List.Pairwise.nil
  | p :: L, m, h => by
    rw [List.map_cons, List.pairwise_cons]
    refine ⟨fun y hy => ?_, asc_pw h.2⟩
    obtain ⟨q, hq, rfl⟩ := List.mem_map.1 hy
    have := h.2.low q hq
    omega
set_option maxHeartbeats 1000000 in
theorem sortedK {B bm : Nat} {L : List Pg} {w : World} (h : MapAt B bm L w) {m : Int} (ha : AscP m L) (hL : L.length ≤ 1000000) :
    Calls Try.prog 25 #[.func (.func 29) #[] #[.pointer (some ⟨w.heap.size, 0, none⟩)]] (w.alloc (.cells #[.map (some bm)] 56)) fun e w' => ∃ v, e = .returned v ∧ w'.ownsRow w.heap.size 3 1 v L.length ((L.map (·.n)).map encZ) ∧ Below w.heap.size w w' := by
  obtain ⟨D, hown, hsz, hl⟩ := h
  have hbl := hown.lt
  have hmax : Maps.size D ≤ maxLen := by rw [hsz]; unfold maxLen; omega
  have hbytes : Maps.size D * 8 ≤ 140737488355328 := by rw [hsz]; omega
  have hseq : SeqGives Fence.wide 2 Try.prog 29 #[.pointer (some ⟨w.heap.size, 0, none⟩)] encZ (fun ss => ss.Perm (intKeys D)) (Maps.size D) (w.alloc (.cells #[.map (some bm)] 56)) :=
    AnyZI.keys_gives (ρ := Try.keysA_ren) { Try.keysA with } Fence.wide _ trivial rfl (by omega) w.heap.size bm L.length D _ (by simp) (by simp) (by
      obtain ⟨es, clock, hb, Ft, hs, hD⟩ := hown
      exact ⟨es, clock, (Below.heap_alloc _ _ bm hbl).trans hb, Ft, hs, hD⟩)
  have cS := AnyZI.sorted_in Try.sortedA Fence.wide 5 trivial trivial trivial trivial rfl (by omega) (sortsK _) (enters_of Try.func28 (by kernel_rfl) rfl) 29 #[.pointer (some ⟨w.heap.size, 0, none⟩)] trivial (enters_of Try.func29 (by kernel_rfl) rfl) _ _ hmax hbytes _ hseq
  change CallsIn _ _ Try.prog 25 _ _ _ at cS
  refine (callsIn_wide.1 cS).mono ?_
  rintro e w' ⟨v, ss, rfl, hS, hrow, -, hb⟩
  have hpw := asc_pw ha
  have hkeys : (L.map (·.n)).Perm (intKeys D) := by
    obtain ⟨es, hD, hp, -⟩ := hown.entries law_i64
    obtain ⟨es', hD', hko⟩ := hown.keysOf
    obtain rfl : es = es' := by rw [hD] at hD'; simpa using hD'
    subst hD
    refine perm_intKeys hp (fun p hp' => ?_) (hpw.imp fun {a b} hab => by omega) (fun x => ?_)
    · obtain ⟨kv, hv⟩ := hko p hp'
      obtain ⟨x, _, hx, _⟩ := Maps.keyOf_i64 Try.underlying3 hv
      exact ⟨x, hx⟩
    · constructor
      · intro hx
        obtain ⟨q, hq, rfl⟩ := List.mem_map.1 hx
        exact ((hl q.n).2 q (look_mem ha hq)).1
      · intro hx
        cases hlk : lookP L x with
        | none =>
          rw [(hl x).1 hlk] at hx
          cases hx
        | some q =>
          obtain ⟨h1, h2⟩ := look_some hlk
          exact List.mem_map.2 ⟨q, h1, h2⟩
  have hms : ss.mergeSort leI = L.map (·.n) := by
    rw [mergeSort_of_perm_i (hS.trans hkeys.symm)]
    exact List.mergeSort_of_pairwise (hpw.imp fun {a b} hab => by simp only [leI, decide_eq_true_eq]; omega)
  have hlen : ss.length = L.length := by
    have h1 := (hS.trans hkeys.symm).length_eq
    simpa using h1
  refine ⟨v, rfl, ?_, (b1 _).trans (hb.mono (by simp))⟩
  rw [hms, hlen] at hrow
  exact ownsRow_base_a hrow (by simp)
theorem OwnI.kpt {B : Nat} {L : List Int} {v : Value} {w w' : World} (h : OwnI B L v w) (hk : KpT 3 w w') : OwnI B L v w' := by
  obtain ⟨hy, h1, h2⟩ := h
  refine ⟨hy, h1, ?_⟩
  rcases h2 with h2 | ⟨g, cap, cur, rfl, hb', hg, r⟩
  · exact .inl h2
  · exact .inr ⟨g, cap, cur, rfl, hb', (hk g cur hg).trans hg, r⟩
theorem ne_pgi : 3 ≠ 54 := by decide
theorem mapn_at {L : List Pg} {k : Nat} (hk : k < L.length) : (L.map (·.n)).getD k 0 = (L.getD k Pg.z).n := by simp [List.getD, hk]
theorem take_succP {L : List Pg} {j : Nat} (h : j < L.length) : L.take (j + 1) = L.take j ++ [L.getD j Pg.z] := by
  rw [List.take_succ_eq_append_getElem h]
  simp [List.getD, h]
theorem getP_mem {L : List Pg} {j : Nat} (h : j < L.length) : L.getD j Pg.z ∈ L := by
  simp [List.getD, h]
set_option maxRecDepth 100000 in
set_option maxHeartbeats 1000000 in
theorem dump_any {B g bm : Nat} {c lo : Int} {L : List Pg} {w : World} (h : ArAt B g bm c lo L w) (hd : ∀ p ∈ L, p.d.length ≤ 1000000000000) :
    Calls Try.prog 19 #[.pointer (some ⟨g, 0, none⟩)] w fun e w' => ∃ v M, e = .returned v ∧ OwnPM w.heap.size M v w' ∧ PmAt w.heap.size M L w' ∧ Below w.heap.size w w' := by
  have H := Lib.hid h
  have c1 := h.rowAt.cell (j := 1) rfl
  have hln := fun ty => h.map.len ty
  have hcap := h.cap
  have HA := Lib.hid h.asc
  have HL := Lib.hid (show L.length ≤ 1000000 by omega)
  have HD := Lib.hid hd
  have HRg := Lib.hid (show Rng (L.map (·.n)) from fun x hx => by
    obtain ⟨q, hq, rfl⟩ := List.mem_map.1 hx
    have h1 := h.asc.low q hq
    have h2 := h.num q hq
    omega)
  have HRf := Lib.hid h.refs
  clear h hcap hd
  go_enter Try.func19, Try.ntmps19
  go_wp2_with (first
    | (at_make; refine wp_make0PM rfl _ _ rfl L.length rfl rfl (by have := HL.out; omega) ?_; intro w1 o1 hb1; have O1 := Lib.hid o1; have B1 := Lib.hid hb1; have d1 := (H.out.below hb1).rowAt.cell (j := 1) rfl; clear o1 hb1; go_frame)
    | (go_at_call 26; refine (keysK _ _).mono ?_; rintro e w' ⟨rfl, rfl⟩)
    | (go_at_call 25; refine (sortedK (H.out.below B1.out).map HA.out HL.out).mono ?_; rintro e w2 ⟨v2, rfl, o2, hb2⟩; have O2 : Hid (OwnI w.heap.size (L.map (·.n)) v2 w2) := Lib.hid ⟨HRg.out, by simpa [cellsI] using ownsRow_base_a o2 B1.out.size⟩; have O1' := Lib.hid (O1.out.below hb2); have B2 := Lib.hid (bgo B1.out hb2); obtain ⟨a2, c2, hv2⟩ := O2.out.rd.shape; rw [List.length_map] at hv2; subst hv2; clear o2 hb2 O1))
  go_loopw [3, 20] (fun vl i wr => ∃ (k : Nat) (M : List PM), k ≤ L.length ∧ i = .int .i64 (k : Int) ∧ Hid (OwnPM w.heap.size M vl wr) ∧ Hid (PmAt w.heap.size M (L.take k) wr) ∧ Hid (OwnI w.heap.size (L.map (·.n)) (.slice a2 L.length c2) wr) ∧ Hid (Below w.heap.size w wr)) (fun _ i _ => L.length - (intOf i).toNat)
  case atStart => exact ⟨0, [], by omega, rfl, O1', Lib.hid trivial, O2, B2⟩
  case round =>
    obtain ⟨k, M, hk, rfl, HO, HP, HK, HB⟩ := hrel
    by_cases hlt : k < L.length
    · have hki : (k : Int) < (L.length : Int) := by omega
      have hLb := HL.out
      obtain ⟨-, a', cap', he, -, -, hcell⟩ := HK.out.rd
      simp only [Value.slice.injEq] at he
      obtain ⟨rfl, -, rfl⟩ := he
      obtain ⟨b, off, rfl, hbl, hc⟩ := hcell (by simpa using by omega)
      have hck := hc k (by simpa using hlt)
      rw [mapn_at hlt] at hck
      have hpm := getP_mem hlt
      have hlook := look_mem HA.out hpm
      have hra := HRf.out _ hpm
      have hda := HD.out _ hpm
      have HT := Lib.hid (take_succP hlt)
      have ha := H.out.below HB.out
      have hin : InI (L.getD k Pg.z).n := by
        have h1 := HA.out.low _ hpm
        have h2 := H.out.num _ hpm
        exact ⟨by omega, by omega⟩
      obtain ⟨s, hs, hm⟩ := ha.map.hit false hin hlook
      simp only [Bool.false_eq_true, if_false, PgV] at hm
      obtain ⟨a3, c3, rfl⟩ := hs.shape
      have e1 := ha.rowAt.cell (j := 1) rfl
      have HS := Lib.hid hs
      have HML : Hid (M.length = k) := Lib.hid (by have := HP.out.len; rw [List.length_take] at this; omega)
      generalize L.getD k Pg.z = p at *
      clear hc hcell ha hs hpm hlook
      have HDA := Lib.hid hda
      have HIN := Lib.hid hin
      have HRA := Lib.hid hra
      clear hda hin hra
      go_upto_region 7 with (go_at_call 22; refine (clone_any B p.d _ _ (HS.out.alloc _) HDA.out).mono ?_; rintro e w3 ⟨v3, rfl, o3, hb3⟩; obtain ⟨a4, c4, rfl⟩ := o3.shape; have r3 := (RowAt.new wr #[.int .i64 p.n, .int .i64 p.r, .slice a3 p.d.length c3] 54).go hb3; have f0 := r3.cell (j := 0) rfl; have f1 := r3.cell (j := 1) rfl; have f2 := r3.cell (j := 2) rfl; have fo := r3.open_ 2; have lt3 := r3.lt; have R3 := Lib.hid r3; have O3 := Lib.hid o3; have B3 := Lib.hid ((Go.Proofs.Ytmnahnmkffndlaa.b1 _).trans (hb3.mono (by simp))); have C3 := Lib.hid hb3; clear o3 hb3 r3)
      refine wp_genW (fun w4 => RowAt wr.heap.size #[.int .i64 p.n, .int .i64 p.r, .slice a4 p.d.length c4] w4 ∧ Own (wr.heap.size + 1) p.d (.slice a4 p.d.length c4) w4 ∧ Below wr.heap.size wr w4) ?_ ?_
      · have ho := oth_cell wr.heap.size 2 w3 (.slice a4 p.d.length c4)
        have o3 := O3.out
        simp only [World.size_alloc] at o3
        have hne : KpB w3 (w3.setCell ⟨wr.heap.size, 2, none⟩ (.slice a4 p.d.length c4)) := by
          have hg : w3.heap[wr.heap.size]? = some (.cells #[.int .i64 p.n, .int .i64 p.r, .slice a3 p.d.length c3] 54 (0, 0)) := (C3.out.block _ (by simp)).trans (heap_alloc_new wr _)
          exact KpT.row ne_pg8 hg ho
        exact ⟨R3.out.set1 2 _, o3.kpb hne, bset B3.out _ _ _ (Nat.le_refl _)⟩
      rintro w4 ⟨r4, o4, hb4⟩
      have g0 := r4.cell (j := 0) rfl
      have g1 := r4.cell (j := 1) rfl
      have g2 := r4.cell (j := 2) rfl
      have lt4 := r4.lt
      have O4 := Lib.hid o4
      have B4 := Lib.hid hb4
      clear r4 o4 hb4 f0 f1 f2 fo lt3 hm
      have HOK : Hid (PM.ok ⟨p.n, p.r, .slice a4 p.d.length c4⟩) := Lib.hid ⟨HIN.out, ⟨by have := HRA.out; show -9223372036854775808 ≤ p.r; omega, by have := HRA.out; show p.r ≤ 9223372036854775807; omega⟩, rfl⟩
      go_wp2_with (at_builtin; refine wp_appPMk rfl _ _ _ rfl w.heap.size M [⟨p.n, p.r, .slice a4 p.d.length c4⟩] _ _ rfl rfl ((HO.out.below B4.out).alloc _) (OwnPM.one HOK.out w4).rd.src (by have := (HB.out.trans (B4.out.mono HB.out.size)).size; simp; omega) (by have := HML.out; simp; omega) ?_; intro v5 w5 o5 hb5 hk5; have O5 := Lib.hid o5; have B5 := Lib.hid hb5; have K5 := Lib.hid hk5; clear o5 hb5 hk5)
      have hk5 := fun T (hT : T ≠ 54) => (KpT.below (T := T) B4.out).trans ((KpT.below (T := T) (Go.Proofs.Ytmnahnmkffndlaa.b1 (a := w4) (.cells #[.int .i64 p.n, .int .i64 p.r, .slice a4 p.d.length c4] 54))).trans (K5.out T hT))
      have hpm5 : PmAt w.heap.size (M ++ [⟨p.n, p.r, .slice a4 p.d.length c4⟩]) (L.take (k + 1)) w5 := by
        rw [HT.out]
        exact (HP.out.kpb (hk5 _ ne_pg8)).app ⟨⟨rfl, rfl, ((O4.out.alloc _).kpb (K5.out _ ne_pg8)).mono (by have := HB.out.size; omega)⟩, trivial⟩
      have hI5 := HK.out.kpt (hk5 _ ne_pgi)
      have hB5 : Below w.heap.size w w5 := (HB.out.trans (B4.out.mono HB.out.size)).trans ((((Go.Proofs.Ytmnahnmkffndlaa.b1 _).mono (HB.out.trans (B4.out.mono HB.out.size)).size)).trans B5.out)
      have Hpm5 := Lib.hid hpm5
      have HI5 := Lib.hid hI5
      have HB5 := Lib.hid hB5
      clear hk5 hpm5 hI5 hB5
      go_roundw
      case rel => exact ⟨k + 1, M ++ [⟨p.n, p.r, .slice a4 p.d.length c4⟩], by omega, by go_num, O5, Hpm5, HI5, HB5⟩
      case measure => simp [intOf]; omega
    · obtain rfl : k = L.length := by omega
      go_wp2
      go_ret
      refine ⟨_, M, rfl, HO.out, ?_, HB.out⟩
      have := HP.out
      rwa [List.take_length] at this
end Go.Proofs.Ytmnahnmkffndlaa
