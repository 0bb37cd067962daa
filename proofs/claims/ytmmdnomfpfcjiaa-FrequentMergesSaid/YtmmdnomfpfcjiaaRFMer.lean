/- The contract of the reference's MergeFrequent. -/
import Derived.Test.YtmmdnomfpfcjiaaRFIns
import Derived.Test.YtmmdnomfpfcjiaaFqMer
import Derived.Test.YtmmdnomfpfcjiaaFqV
namespace Go.Proofs.Ytmmdnomfpfcjiaa
open Go.RowKit
set_option linter.unusedVariables false
set_option linter.unusedSimpArgs false
theorem SM.c6 {W : World} {a : FQ} {v : Value} {b : FQ} {u : Value} {w : World} (h : SM W a v b u w) : w.cell? ⟨W.heap.size, 0, none⟩ = some (.int .i64 a.S) ∧ w.cell? ⟨W.heap.size, 3, none⟩ = some v ∧ w.cell? ⟨W.heap.size, 4, none⟩ = some (.bool a.s) ∧ w.cell? ⟨W.heap.size + 1, 4, none⟩ = some (.bool b.s) := ⟨h.1.1.1, h.1.1.2.2.2.1, h.1.1.2.2.2.2, h.2.1.1.2.2.2.2⟩
theorem SM.al {W : World} {a : FQ} {v : Value} {b : FQ} {u : Value} {w : World} (h : SM W a v b u w) (o : Obj) : SM W a v b u (w.alloc o) := h.go (b1 o)
theorem SM.drew {W : World} {a : FQ} {v : Value} {b : FQ} {u : Value} {w : World} (h : SM W a v b u w) : SM W a v b u w.drew := h.go (Below.refl _ _).drew
theorem bool4 (s s' f : Bool) : s = true ∨ (s = false ∧ s' = true) ∨ (s = false ∧ s' = false ∧ f = true) ∨ (s = false ∧ s' = false ∧ f = false) := by cases s <;> cases s' <;> cases f <;> simp
theorem merQ_small {S T K T' K' : Int} {L M : List Ent} {s s' : Bool} (h : ValQ S T K L) (h' : ValQ S T' K' M) (hl : ((unL L M).length : Int) ≤ S) :
    sumQ ⟨S, T, K, L, s⟩ ⟨S, T', K', M, s'⟩ = ⟨S, tS T T', tS K K', unL L M, (s || s' || tF T T' || tF K K') || unF L M⟩ := by
  have hk := tS_bd K K'
  have hg := unL_gd h.gd h'.gd
  unfold sumQ
  dsimp only
  rw [srpl_zero hl, lowL_zero (fun x hx => ⟨(entQ_zero (hg x hx)).2.1, (entQ_zero (hg x hx)).2.2.2⟩), (tS_zero hk.1 hk.2).1, (tS_zero hk.1 hk.2).2]
  congr 1
  cases s <;> cases s' <;> cases (tF T T') <;> cases (tF K K') <;> cases (unF L M) <;> rfl
theorem merQ_big {S T K T' K' : Int} {L M : List Ent} {s s' : Bool} {d : Int} (hd : srpl (unL L M) S = d) :
    sumQ ⟨S, T, K, L, s⟩ ⟨S, T', K', M, s'⟩ = ⟨S, tS T T', tS (tS K K') d, lowL (unL L M) d, ((s || s' || tF T T' || tF K K') || unF L M) || tF (tS K K') d⟩ := by
  unfold sumQ
  dsimp only
  rw [hd]
  congr 1
  cases s <;> cases s' <;> cases (tF T T') <;> cases (tF K K') <;> cases (unF L M) <;> cases (tF (tS K K') d) <;> rfl
set_option maxRecDepth 100000 in
set_option maxHeartbeats 8000000 in
theorem rmerG_any (S T K T' K' : Int) (L M : List Ent) (s s' : Bool) (aA aB : Option Addr) (nA cA nB cB : Nat) (w : World) (hr : RdE L (.slice aA nA cA) w) (hr2 : RdE M (.slice aB nB cB) w) (hn : L.length + M.length ≤ 1000) (hE : valQ S T K L = 0) (hF : valQ S T' K' M = 0) :
    Calls Try.prog 20 #[.agg #[.int .i64 S, .int .i64 T, .int .i64 K, .slice aA nA cA, .bool s], .agg #[.int .i64 S, .int .i64 T', .int .i64 K', .slice aB nB cB, .bool s']] w fun e w' =>
      ∃ u, e = .returned (.tuple #[u, .int .i64 0]) ∧ OwnQ w.heap.size (sumQ ⟨S, T, K, L, s⟩ ⟨S, T', K', M, s'⟩) u w' ∧ Below w.heap.size w w' := by
  obtain ⟨a', cap', he⟩ := hr.shape
  simp only [Value.slice.injEq] at he
  obtain ⟨rfl, rfl, rfl⟩ := he
  obtain ⟨a', cap', he⟩ := hr2.shape
  simp only [Value.slice.injEq] at he
  obtain ⟨rfl, rfl, rfl⟩ := he
  have HR := Lib.hid hr
  have HR2 := Lib.hid hr2
  have HV := Lib.hid (fun (w' : World) (hb : Below w.heap.size w w') => rvalQ_any S T K L s aA L.length cA w' (hr.below hb) (by omega))
  have HV2 := Lib.hid (fun (w' : World) (hb : Below w.heap.size w w') => rvalQ_any S T' K' M s' aB M.length cB w' (hr2.below hb) (by omega))
  have M0 := Lib.hid (SM.new w ⟨S, T, K, L, s⟩ (.slice aA L.length cA) ⟨S, T', K', M, s'⟩ (.slice aB M.length cB))
  have B0 := Lib.hid M0.out.2.2.2
  have hy := hr.1
  have hy2 := hr2.1
  clear hr hr2
  rw [hE] at HV
  rw [hF] at HV2
  have hva := valQ_ok hE
  have hvb := valQ_ok hF
  have HSML := Lib.hid (fun hl => merQ_small (s := s) (s' := s') hva hvb hl)
  have HBIG := Lib.hid (fun d hd => merQ_big (S := S) (T := T) (K := K) (T' := T') (K' := K') (L := L) (M := M) (s := s) (s' := s') (d := d) hd)
  generalize sumQ ⟨S, T, K, L, s⟩ ⟨S, T', K', M, s'⟩ = R at *
  have HS1 := Lib.hid (fun w => rsumQ_any T T' w (by have := hva.t0; omega) (by have := hva.t1; omega) (by have := hvb.t0; omega) (by have := hvb.t1; omega))
  have HS2 := Lib.hid (fun w => rsumQ_any K K' w (by have := hva.k0; omega) (by have := hva.k1; omega) (by have := hvb.k0; omega) (by have := hvb.k1; omega))
  have hs0 := hva.s0
  have hs1 := hva.s1
  have hk := tS_bd K K'
  have HAL := Lib.hid hva.asc
  have HAM := Lib.hid hvb.asc
  have HGV := Lib.hid (unL_gd hva.gd hvb.gd)
  have HGL := Lib.hid hva.gd
  have HGM := Lib.hid hvb.gd
  clear hva hvb hE hF
  generalize tS T T' = t1 at *
  generalize tF T T' = f0 at *
  generalize tF K K' = f1 at *
  generalize tS K K' = k1 at *
  go_enter Try.func20, Try.ntmps20
  go_upto_region 11 with (first
    | (go_at_call 17; (with_reducible refine (HV.out _ B0.out).mono ?_); rintro e w2 ⟨rfl, hb2⟩; have M2 := Lib.hid (M0.out.go hb2); have B2 := Lib.hid M2.out.2.2.2; obtain ⟨⟨p0, p1, p2, p3, p4⟩, ⟨i0, i1, i2, i3, i4⟩, -, -⟩ := M2.out.cells; clear hb2)
    | (go_at_call 17; (with_reducible refine (HV2.out _ B2.out).mono ?_); rintro e w3 ⟨rfl, hb3⟩; have M3 := Lib.hid (M2.out.go hb3); clear p0 p1 p2 p3 p4 i0 i1 i2 i3 i4; obtain ⟨⟨p0, p1, p2, p3, p4⟩, ⟨i0, i1, i2, i3, i4⟩, -, -⟩ := M3.out.cells; clear hb3)
    | (go_at_call 30; (with_reducible refine (HS1.out _).mono ?_); rintro e w' ⟨rfl, rfl⟩)
    | (go_at_call 30; (with_reducible refine (HS2.out _).mono ?_); rintro e w' ⟨rfl, rfl⟩))
  have HLW : Hid (w.heap.size + 1 + 1 < w3.heap.size) := Lib.hid M3.out.lt
  have HW3 : Hid (w.heap.size + 3 ≤ w3.heap.size) := Lib.hid (by have := M3.out.lt; omega)
  have HSR : Hid (∀ w' : World, Below w3.heap.size w3 w' → FromE L 23 (.slice aA L.length cA) w') := Lib.hid (fun w' hb => ((HR.out.below M3.out.2.2.2).below hb).src)
  have HLL : Hid (L.length + M.length ≤ 1000) := Lib.hid hn
  clear HV HV2 M0 B0 HS1 HS2
  have HZ : Hid (∀ w' : World, Below (w3.heap.size + 1) (w3.alloc (.cells #[.int .i64 0, .int .i64 0, .int .i64 0, .slice none 0 0, .bool false] 25)) w' → TQ w3.heap.size 0 0 0 (.slice none 0 0) false w' ∧ Below w3.heap.size w3 w') := Lib.hid (fun w' hb => ⟨(TQ.new 0 0 0 (.slice none 0 0) false w3).keep (hb.block _ (Nat.lt_succ_self _)), (b1 _).trans (hb.mono (Nat.le_succ _))⟩)
  refine wp_meetX 12 50 20 (fun v wx => ∃ (g : Nat) (a4 : Option Addr) (cap4 : Nat), v = .pointer (some ⟨g, 0, none⟩) ∧ Hid (RQ w3.heap.size g ⟨S, t1, k1, L, s || s' || f0 || f1⟩ (.slice a4 L.length cap4) wx ∧ SM w ⟨S, T, K, L, s⟩ (.slice aA L.length cA) ⟨S, T', K', M, s'⟩ (.slice aB M.length cB) wx)) ?_ ?_
  · intro G hG
    have HPUT := Lib.hid (fun (o : Nat) (u : Value) (w' : World) (h : SM w ⟨S, T, K, L, s⟩ (.slice aA L.length cA) ⟨S, T', K', M, s'⟩ (.slice aB M.length cB) w') => h.keep (bsetB (Below.refl _ _) w3.heap.size o u HW3.out))
    rcases bool4 s s' f0 with rfl | ⟨rfl, rfl⟩ | ⟨rfl, rfl, rfl⟩ | ⟨rfl, rfl, rfl⟩
    · clear HSML HBIG HAL HAM HGV HGL HGM hy hy2 hs0 hs1 hk HR HR2 HLW
      refine wp_region_held_drew (S := (fun w' => w'.cell? ⟨w.heap.size, 0, none⟩ = some (.int .i64 S) ∧ w'.cell? ⟨w.heap.size, 3, none⟩ = some (.slice aA L.length cA) ∧ w'.cell? ⟨w.heap.size, 4, none⟩ = some (.bool true) ∧ w'.cell? ⟨w.heap.size + 1, 4, none⟩ = some (.bool s'))) (by kernel_rfl) ?_ (fun hH0 => ?_)
      · exact M3.out.drew.c6
      refine wpAnyH_take (i := 0) (v := ?_) rfl (by kernel_rfl) (by kernel_rfl) (by kernel_rfl) (fun _ _ _ h => h) (Or.inl ⟨by rfl, ?_⟩) hH0 ?_
      rotate_left
      · intro w hSw; (try dsimp only at hSw); (try simp only [List.getElem_toArray, List.getElem_cons_zero, List.getElem_cons_succ]); go_simp <;> with_reducible rfl
      try simp only [Act.put, List.getElem_toArray, List.getElem_cons_zero, List.getElem_cons_succ, List.setIfInBounds_toArray, List.set_cons_zero, List.set_cons_succ]
      refine wpAnyH_take (i := 1) (v := ?_) rfl (by kernel_rfl) (by kernel_rfl) (by kernel_rfl) (fun _ _ _ h => h) (Or.inl ⟨by rfl, ?_⟩) hH0 ?_
      rotate_left
      · intro w hSw; (try dsimp only at hSw); (try simp only [List.getElem_toArray, List.getElem_cons_zero, List.getElem_cons_succ]); go_simp <;> with_reducible rfl
      try simp only [Act.put, List.getElem_toArray, List.getElem_cons_zero, List.getElem_cons_succ, List.setIfInBounds_toArray, List.set_cons_zero, List.set_cons_succ]
      refine wpAnyH_take (i := 2) (v := ?_) rfl (by kernel_rfl) (by kernel_rfl) (by kernel_rfl) (fun _ _ _ h => h) (Or.inl ⟨by rfl, ?_⟩) hH0 ?_
      rotate_left
      · intro w hSw; (try dsimp only at hSw); (try simp only [List.getElem_toArray, List.getElem_cons_zero, List.getElem_cons_succ]); go_simp <;> with_reducible rfl
      try simp only [Act.put, List.getElem_toArray, List.getElem_cons_zero, List.getElem_cons_succ, List.setIfInBounds_toArray, List.set_cons_zero, List.set_cons_succ]
      refine wpAnyH_take (i := 3) (v := ?_) rfl (by kernel_rfl) (by kernel_rfl) (by kernel_rfl) (fun _ _ _ h => h) (Or.inl ⟨by rfl, ?_⟩) hH0 ?_
      rotate_left
      · intro w hSw; (try dsimp only at hSw); (try simp only [List.getElem_toArray, List.getElem_cons_zero, List.getElem_cons_succ]); go_simp <;> with_reducible rfl
      try simp only [Act.put, List.getElem_toArray, List.getElem_cons_zero, List.getElem_cons_succ, List.setIfInBounds_toArray, List.set_cons_zero, List.set_cons_succ]
      refine wpAnyH_take (i := 4) (v := ?_) rfl (by kernel_rfl) (by kernel_rfl) (by kernel_rfl) (fun _ _ _ h => h) (Or.inl ⟨by rfl, ?_⟩) hH0 ?_
      rotate_left
      · intro w hSw; (try dsimp only at hSw); (try simp only [List.getElem_toArray, List.getElem_cons_zero, List.getElem_cons_succ]); go_simp <;> with_reducible rfl
      try simp only [Act.put, List.getElem_toArray, List.getElem_cons_zero, List.getElem_cons_succ, List.setIfInBounds_toArray, List.set_cons_zero, List.set_cons_succ]
      refine wpAnyH_take (i := 5) (v := ?_) rfl (by kernel_rfl) (by kernel_rfl) (by kernel_rfl) (fun _ _ _ h => h) (Or.inl ⟨by rfl, ?_⟩) hH0 ?_
      rotate_left
      · intro w hSw; (try dsimp only at hSw); (try simp only [List.getElem_toArray, List.getElem_cons_zero, List.getElem_cons_succ]); go_simp <;> with_reducible rfl
      try simp only [Act.put, List.getElem_toArray, List.getElem_cons_zero, List.getElem_cons_succ, List.setIfInBounds_toArray, List.set_cons_zero, List.set_cons_succ]
      refine wpAnyH_take (i := 6) (v := ?_) rfl (by kernel_rfl) (by kernel_rfl) (by kernel_rfl) (fun _ _ _ h => h) (Or.inl ⟨by rfl, ?_⟩) hH0 ?_
      rotate_left
      · intro w hSw; (try dsimp only at hSw); (try simp only [List.getElem_toArray, List.getElem_cons_zero, List.getElem_cons_succ]); go_simp <;> with_reducible rfl
      try simp only [Act.put, List.getElem_toArray, List.getElem_cons_zero, List.getElem_cons_succ, List.setIfInBounds_toArray, List.set_cons_zero, List.set_cons_succ]
      refine wpAnyH_take (i := 7) (v := undef) rfl (by kernel_rfl) (by kernel_rfl) (by kernel_rfl) (fun _ _ _ h => h) (Or.inr ⟨by rfl, rfl⟩) hH0 ?_
      try simp only [Act.put, List.getElem_toArray, List.getElem_cons_zero, List.getElem_cons_succ, List.setIfInBounds_toArray, List.set_cons_zero, List.set_cons_succ]
      refine wpAnyH_take (i := 8) (v := undef) rfl (by kernel_rfl) (by kernel_rfl) (by kernel_rfl) (fun _ _ _ h => h) (Or.inr ⟨by rfl, rfl⟩) hH0 ?_
      try simp only [Act.put, List.getElem_toArray, List.getElem_cons_zero, List.getElem_cons_succ, List.setIfInBounds_toArray, List.set_cons_zero, List.set_cons_succ]
      refine wpAnyH_take (i := 9) (v := ?_) rfl (by kernel_rfl) (by kernel_rfl) (by kernel_rfl) (fun _ _ _ h => h) (Or.inl ⟨by rfl, ?_⟩) hH0 ?_
      rotate_left
      · intro w hSw; (try dsimp only at hSw); (try simp only [List.getElem_toArray, List.getElem_cons_zero, List.getElem_cons_succ]); go_simp <;> with_reducible rfl
      try simp only [Act.put, List.getElem_toArray, List.getElem_cons_zero, List.getElem_cons_succ, List.setIfInBounds_toArray, List.set_cons_zero, List.set_cons_succ]
      refine wpAnyH_take (i := 10) (v := ?_) rfl (by kernel_rfl) (by kernel_rfl) (by kernel_rfl) (fun _ _ _ h => h) (Or.inl ⟨by rfl, ?_⟩) hH0 ?_
      rotate_left
      · intro w hSw; (try dsimp only at hSw); (try simp only [List.getElem_toArray, List.getElem_cons_zero, List.getElem_cons_succ]); go_simp <;> with_reducible rfl
      try simp only [Act.put, List.getElem_toArray, List.getElem_cons_zero, List.getElem_cons_succ, List.setIfInBounds_toArray, List.set_cons_zero, List.set_cons_succ]
      refine wpAnyH_take (i := 11) (v := undef) rfl (by kernel_rfl) (by kernel_rfl) (by kernel_rfl) (fun _ _ _ h => h) (Or.inr ⟨by rfl, rfl⟩) hH0 ?_
      try simp only [Act.put, List.getElem_toArray, List.getElem_cons_zero, List.getElem_cons_succ, List.setIfInBounds_toArray, List.set_cons_zero, List.set_cons_succ]
      refine wpAnyH_take (i := 12) (v := ?_) rfl (by kernel_rfl) (by kernel_rfl) (by kernel_rfl) (fun _ _ _ h => h) (Or.inl ⟨by rfl, ?_⟩) hH0 ?_
      rotate_left
      · intro w hSw; (try dsimp only at hSw); (try simp only [List.getElem_toArray, List.getElem_cons_zero, List.getElem_cons_succ]); go_simp <;> with_reducible rfl
      try simp only [Act.put, List.getElem_toArray, List.getElem_cons_zero, List.getElem_cons_succ, List.setIfInBounds_toArray, List.set_cons_zero, List.set_cons_succ]
      refine wpAnyH_take (i := 13) (v := ?_) rfl (by kernel_rfl) (by kernel_rfl) (by kernel_rfl) (fun _ _ _ h => h) (Or.inl ⟨by rfl, ?_⟩) hH0 ?_
      rotate_left
      · intro w hSw; (try dsimp only at hSw); (try simp only [List.getElem_toArray, List.getElem_cons_zero, List.getElem_cons_succ]); go_simp <;> with_reducible rfl
      try simp only [Act.put, List.getElem_toArray, List.getElem_cons_zero, List.getElem_cons_succ, List.setIfInBounds_toArray, List.set_cons_zero, List.set_cons_succ]
      refine wpAnyH_take (i := 14) (v := undef) rfl (by kernel_rfl) (by kernel_rfl) (by kernel_rfl) (fun _ _ _ h => h) (Or.inr ⟨by rfl, rfl⟩) hH0 ?_
      try simp only [Act.put, List.getElem_toArray, List.getElem_cons_zero, List.getElem_cons_succ, List.setIfInBounds_toArray, List.set_cons_zero, List.set_cons_succ]
      refine wpAnyH_take (i := 15) (v := ?_) rfl (by kernel_rfl) (by kernel_rfl) (by kernel_rfl) (fun _ _ _ h => h) (Or.inl ⟨by rfl, ?_⟩) hH0 ?_
      rotate_left
      · intro w hSw; (try dsimp only at hSw); (try simp only [List.getElem_toArray, List.getElem_cons_zero, List.getElem_cons_succ]); go_simp <;> with_reducible rfl
      try simp only [Act.put, List.getElem_toArray, List.getElem_cons_zero, List.getElem_cons_succ, List.setIfInBounds_toArray, List.set_cons_zero, List.set_cons_succ]
      refine wpAnyH_take (i := 16) (v := ?_) rfl (by kernel_rfl) (by kernel_rfl) (by kernel_rfl) (fun _ _ _ h => h) (Or.inl ⟨by rfl, ?_⟩) hH0 ?_
      rotate_left
      · intro w hSw; (try dsimp only at hSw); (try simp only [List.getElem_toArray, List.getElem_cons_zero, List.getElem_cons_succ]); go_simp <;> with_reducible rfl
      try simp only [Act.put, List.getElem_toArray, List.getElem_cons_zero, List.getElem_cons_succ, List.setIfInBounds_toArray, List.set_cons_zero, List.set_cons_succ]
      refine wpAnyH_take (i := 17) (v := ?_) rfl (by kernel_rfl) (by kernel_rfl) (by kernel_rfl) (fun _ _ _ h => h) (Or.inl ⟨by rfl, ?_⟩) hH0 ?_
      rotate_left
      · intro w hSw; (try dsimp only at hSw); (try simp only [List.getElem_toArray, List.getElem_cons_zero, List.getElem_cons_succ]); go_simp <;> with_reducible rfl
      try simp only [Act.put, List.getElem_toArray, List.getElem_cons_zero, List.getElem_cons_succ, List.setIfInBounds_toArray, List.set_cons_zero, List.set_cons_succ]
      refine wpAnyH_ready (rs := [18, 20]) (by kernel_rfl) (by simp) ?_
      refine AllReadyH.cons rfl (fun KK hK => ?_) (AllReadyH.cons rfl (fun KK hK => ?_) AllReadyH.nil)
      · show ite _ _ _
        refine step_appE (w := w3.drew) rfl _ _ _ rfl w3.heap.size [] L (.slice none 0 0) (.slice aA L.length cA) rfl rfl (OwnE.empty _ _) (HSR.out _ (Below.refl _ _).drew) ?_ ?_ ?_
        · first | exact Nat.le_refl _ | simp
        · have := HLL.out; simp; omega
        intro v4 w4 ho4 hb4; rw [List.nil_append] at ho4; obtain ⟨a4, cap4, rfl⟩ := ho4.rd.shape; have HO4 := Lib.hid ho4; have HB4 : Hid (Below w3.heap.size w3 w4) := Lib.hid ((Below.refl _ _).drew.trans hb4); have M4 := Lib.hid (M3.out.keep (HB4.out.mono HW3.out)); clear ho4 hb4
        refine hK.out _ _ M4.out.c6 (fun hH1 => ?_)
        clear hK KK hH0
        try simp only [Act.put, List.getElem_toArray, List.getElem_cons_zero, List.getElem_cons_succ, List.setIfInBounds_toArray, List.set_cons_zero, List.set_cons_succ]
        refine wpAnyH_take (i := 19) (v := ?_) rfl (by kernel_rfl) (by kernel_rfl) (by kernel_rfl) (fun _ _ _ h => h) (Or.inl ⟨by rfl, ?_⟩) hH1 ?_
        rotate_left
        · intro w hSw; (try dsimp only at hSw); (try simp only [List.getElem_toArray, List.getElem_cons_zero, List.getElem_cons_succ]); go_simp <;> with_reducible rfl
        try simp only [Act.put, List.getElem_toArray, List.getElem_cons_zero, List.getElem_cons_succ, List.setIfInBounds_toArray, List.set_cons_zero, List.set_cons_succ]
        refine wpAnyH_ready (rs := [20]) (by kernel_rfl) (by simp) ?_
        refine AllReadyH.cons rfl (fun KK hK => ?_) AllReadyH.nil
        (dsimp only [List.getElem_toArray, List.getElem_cons_zero, List.getElem_cons_succ])
        rw [if_pos (by rfl)]
        go_simp
        refine hK.out _ _ (M4.out.al _).c6 (fun hH2 => ?_)
        clear hK KK hH1
        try simp only [Act.put, List.getElem_toArray, List.getElem_cons_zero, List.getElem_cons_succ, List.setIfInBounds_toArray, List.set_cons_zero, List.set_cons_succ]
        refine wpAnyH_ready (rs := [21]) (by kernel_rfl) (by simp) ?_
        refine AllReadyH.cons rfl (fun KK hK => ?_) AllReadyH.nil
        (dsimp only [List.getElem_toArray, List.getElem_cons_zero, List.getElem_cons_succ])
        rw [if_pos (by rfl)]
        go_simp
        refine hK.out _ _ (M4.out.al _).c6 (fun hH3 => ?_)
        clear hK KK hH2
        try simp only [Act.put, List.getElem_toArray, List.getElem_cons_zero, List.getElem_cons_succ, List.setIfInBounds_toArray, List.set_cons_zero, List.set_cons_succ]
        refine wpAnyH_done (by kernel_rfl) ?_ _
        refine hG _ _ _ ⟨[_, _, _, _, _, _, _, _, _, _, _, _, _, _, _, _, _, _, _, _], rfl, rfl⟩ ?_
        exact ⟨_, _, _, rfl, Lib.hid ⟨RQ.newA HO4.out HB4.out.size, M4.out.go (b1 _)⟩⟩
      · (dsimp only [List.getElem_toArray, List.getElem_cons_zero, List.getElem_cons_succ])
        rw [if_pos (by rfl)]
        go_simp
        have M5 := Lib.hid (M3.out.drew.al (.cells #[.int .i64 0, .int .i64 0, .int .i64 0, .slice none 0 0, .bool false] 25))
        refine hK.out _ _ M5.out.c6 (fun hH1 => ?_)
        clear hK KK hH0
        try simp only [Act.put, List.getElem_toArray, List.getElem_cons_zero, List.getElem_cons_succ, List.setIfInBounds_toArray, List.set_cons_zero, List.set_cons_succ]
        refine wpAnyH_ready (rs := [18]) (by kernel_rfl) (by simp) ?_
        refine AllReadyH.cons rfl (fun KK hK => ?_) AllReadyH.nil
        show ite _ _ _
        refine step_appE rfl _ _ _ rfl (w3.heap.size + 1) [] L _ _ rfl rfl (OwnE.empty _ _) (HSR.out _ (by first | exact b1 _ | exact (b1 _).drew | exact (Below.refl _ _).drew.trans (b1 _))) ?_ ?_ ?_
        · with_reducible_and_instances first | exact allocQ_size _ _ | exact allocQ_size2 _ _
        · have := HLL.out; simp; omega
        intro v4 w4 ho4 hb4; rw [List.nil_append] at ho4; obtain ⟨a4, cap4, rfl⟩ := ho4.rd.shape; have HO4 := Lib.hid ho4; have HZ4 := Lib.hid (HZ.out w4 (by first | exact hb4 | exact (Below.refl _ _).drew.trans hb4)); obtain ⟨⟨z0, z1, z2, z3, z4⟩, x0', x1', x2', x3', x4'⟩ := HZ4.out.1.cells; have M4 := Lib.hid (M3.out.keep (HZ4.out.2.mono HW3.out)); clear ho4 hb4
        refine hK.out _ _ M4.out.c6 (fun hH2 => ?_)
        clear hK KK hH1
        try simp only [Act.put, List.getElem_toArray, List.getElem_cons_zero, List.getElem_cons_succ, List.setIfInBounds_toArray, List.set_cons_zero, List.set_cons_succ]
        refine wpAnyH_take (i := 19) (v := ?_) rfl (by kernel_rfl) (by kernel_rfl) (by kernel_rfl) (fun _ _ _ h => h) (Or.inl ⟨by rfl, ?_⟩) hH2 ?_
        rotate_left
        · intro w hSw; (try dsimp only at hSw); (try simp only [List.getElem_toArray, List.getElem_cons_zero, List.getElem_cons_succ]); go_simp <;> with_reducible rfl
        try simp only [Act.put, List.getElem_toArray, List.getElem_cons_zero, List.getElem_cons_succ, List.setIfInBounds_toArray, List.set_cons_zero, List.set_cons_succ]
        refine wpAnyH_ready (rs := [21]) (by kernel_rfl) (by simp) ?_
        refine AllReadyH.cons rfl (fun KK hK => ?_) AllReadyH.nil
        (dsimp only [List.getElem_toArray, List.getElem_cons_zero, List.getElem_cons_succ])
        rw [if_pos (by rfl)]
        go_simp
        refine hK.out _ _ (HPUT.out _ _ _ (HPUT.out _ _ _ (HPUT.out _ _ _ (HPUT.out _ _ _ (HPUT.out _ _ _ M4.out))))).c6 (fun hH3 => ?_)
        clear hK KK hH2
        try simp only [Act.put, List.getElem_toArray, List.getElem_cons_zero, List.getElem_cons_succ, List.setIfInBounds_toArray, List.set_cons_zero, List.set_cons_succ]
        refine wpAnyH_done (by kernel_rfl) ?_ _
        refine hG _ _ _ ⟨[_, _, _, _, _, _, _, _, _, _, _, _, _, _, _, _, _, _, _, _], rfl, rfl⟩ ?_
        exact ⟨_, _, _, rfl, Lib.hid ⟨RQ.newB HZ4.out.1 HO4.out, M4.out.keep (bsetB (bsetB (bsetB (bsetB (bsetB (Below.refl _ _) _ _ _ HW3.out) _ _ _ HW3.out) _ _ _ HW3.out) _ _ _ HW3.out) _ _ _ HW3.out)⟩⟩
    · clear HSML HBIG HAL HAM HGV HGL HGM hy hy2 hs0 hs1 hk HR HR2 HLW
      refine wp_region_held_drew (S := (fun w' => w'.cell? ⟨w.heap.size, 0, none⟩ = some (.int .i64 S) ∧ w'.cell? ⟨w.heap.size, 3, none⟩ = some (.slice aA L.length cA) ∧ w'.cell? ⟨w.heap.size, 4, none⟩ = some (.bool false) ∧ w'.cell? ⟨w.heap.size + 1, 4, none⟩ = some (.bool true))) (by kernel_rfl) ?_ (fun hH0 => ?_)
      · exact M3.out.drew.c6
      refine wpAnyH_take (i := 0) (v := ?_) rfl (by kernel_rfl) (by kernel_rfl) (by kernel_rfl) (fun _ _ _ h => h) (Or.inl ⟨by rfl, ?_⟩) hH0 ?_
      rotate_left
      · intro w hSw; (try dsimp only at hSw); (try simp only [List.getElem_toArray, List.getElem_cons_zero, List.getElem_cons_succ]); go_simp <;> with_reducible rfl
      try simp only [Act.put, List.getElem_toArray, List.getElem_cons_zero, List.getElem_cons_succ, List.setIfInBounds_toArray, List.set_cons_zero, List.set_cons_succ]
      refine wpAnyH_take (i := 1) (v := ?_) rfl (by kernel_rfl) (by kernel_rfl) (by kernel_rfl) (fun _ _ _ h => h) (Or.inl ⟨by rfl, ?_⟩) hH0 ?_
      rotate_left
      · intro w hSw; (try dsimp only at hSw); (try simp only [List.getElem_toArray, List.getElem_cons_zero, List.getElem_cons_succ]); go_simp <;> with_reducible rfl
      try simp only [Act.put, List.getElem_toArray, List.getElem_cons_zero, List.getElem_cons_succ, List.setIfInBounds_toArray, List.set_cons_zero, List.set_cons_succ]
      refine wpAnyH_take (i := 2) (v := ?_) rfl (by kernel_rfl) (by kernel_rfl) (by kernel_rfl) (fun _ _ _ h => h) (Or.inl ⟨by rfl, ?_⟩) hH0 ?_
      rotate_left
      · intro w hSw; (try dsimp only at hSw); (try simp only [List.getElem_toArray, List.getElem_cons_zero, List.getElem_cons_succ]); go_simp <;> with_reducible rfl
      try simp only [Act.put, List.getElem_toArray, List.getElem_cons_zero, List.getElem_cons_succ, List.setIfInBounds_toArray, List.set_cons_zero, List.set_cons_succ]
      refine wpAnyH_take (i := 3) (v := ?_) rfl (by kernel_rfl) (by kernel_rfl) (by kernel_rfl) (fun _ _ _ h => h) (Or.inl ⟨by rfl, ?_⟩) hH0 ?_
      rotate_left
      · intro w hSw; (try dsimp only at hSw); (try simp only [List.getElem_toArray, List.getElem_cons_zero, List.getElem_cons_succ]); go_simp <;> with_reducible rfl
      try simp only [Act.put, List.getElem_toArray, List.getElem_cons_zero, List.getElem_cons_succ, List.setIfInBounds_toArray, List.set_cons_zero, List.set_cons_succ]
      refine wpAnyH_take (i := 4) (v := ?_) rfl (by kernel_rfl) (by kernel_rfl) (by kernel_rfl) (fun _ _ _ h => h) (Or.inl ⟨by rfl, ?_⟩) hH0 ?_
      rotate_left
      · intro w hSw; (try dsimp only at hSw); (try simp only [List.getElem_toArray, List.getElem_cons_zero, List.getElem_cons_succ]); go_simp <;> with_reducible rfl
      try simp only [Act.put, List.getElem_toArray, List.getElem_cons_zero, List.getElem_cons_succ, List.setIfInBounds_toArray, List.set_cons_zero, List.set_cons_succ]
      refine wpAnyH_take (i := 5) (v := ?_) rfl (by kernel_rfl) (by kernel_rfl) (by kernel_rfl) (fun _ _ _ h => h) (Or.inl ⟨by rfl, ?_⟩) hH0 ?_
      rotate_left
      · intro w hSw; (try dsimp only at hSw); (try simp only [List.getElem_toArray, List.getElem_cons_zero, List.getElem_cons_succ]); go_simp <;> with_reducible rfl
      try simp only [Act.put, List.getElem_toArray, List.getElem_cons_zero, List.getElem_cons_succ, List.setIfInBounds_toArray, List.set_cons_zero, List.set_cons_succ]
      refine wpAnyH_take (i := 6) (v := ?_) rfl (by kernel_rfl) (by kernel_rfl) (by kernel_rfl) (fun _ _ _ h => h) (Or.inl ⟨by rfl, ?_⟩) hH0 ?_
      rotate_left
      · intro w hSw; (try dsimp only at hSw); (try simp only [List.getElem_toArray, List.getElem_cons_zero, List.getElem_cons_succ]); go_simp <;> with_reducible rfl
      try simp only [Act.put, List.getElem_toArray, List.getElem_cons_zero, List.getElem_cons_succ, List.setIfInBounds_toArray, List.set_cons_zero, List.set_cons_succ]
      refine wpAnyH_take (i := 7) (v := ?_) rfl (by kernel_rfl) (by kernel_rfl) (by kernel_rfl) (fun _ _ _ h => h) (Or.inl ⟨by rfl, ?_⟩) hH0 ?_
      rotate_left
      · intro w hSw; (try dsimp only at hSw); (try simp only [List.getElem_toArray, List.getElem_cons_zero, List.getElem_cons_succ]); go_simp <;> with_reducible rfl
      try simp only [Act.put, List.getElem_toArray, List.getElem_cons_zero, List.getElem_cons_succ, List.setIfInBounds_toArray, List.set_cons_zero, List.set_cons_succ]
      refine wpAnyH_take (i := 8) (v := ?_) rfl (by kernel_rfl) (by kernel_rfl) (by kernel_rfl) (fun _ _ _ h => h) (Or.inl ⟨by rfl, ?_⟩) hH0 ?_
      rotate_left
      · intro w hSw; (try dsimp only at hSw); (try simp only [List.getElem_toArray, List.getElem_cons_zero, List.getElem_cons_succ]); go_simp <;> with_reducible rfl
      try simp only [Act.put, List.getElem_toArray, List.getElem_cons_zero, List.getElem_cons_succ, List.setIfInBounds_toArray, List.set_cons_zero, List.set_cons_succ]
      refine wpAnyH_take (i := 9) (v := ?_) rfl (by kernel_rfl) (by kernel_rfl) (by kernel_rfl) (fun _ _ _ h => h) (Or.inl ⟨by rfl, ?_⟩) hH0 ?_
      rotate_left
      · intro w hSw; (try dsimp only at hSw); (try simp only [List.getElem_toArray, List.getElem_cons_zero, List.getElem_cons_succ]); go_simp <;> with_reducible rfl
      try simp only [Act.put, List.getElem_toArray, List.getElem_cons_zero, List.getElem_cons_succ, List.setIfInBounds_toArray, List.set_cons_zero, List.set_cons_succ]
      refine wpAnyH_take (i := 10) (v := ?_) rfl (by kernel_rfl) (by kernel_rfl) (by kernel_rfl) (fun _ _ _ h => h) (Or.inl ⟨by rfl, ?_⟩) hH0 ?_
      rotate_left
      · intro w hSw; (try dsimp only at hSw); (try simp only [List.getElem_toArray, List.getElem_cons_zero, List.getElem_cons_succ]); go_simp <;> with_reducible rfl
      try simp only [Act.put, List.getElem_toArray, List.getElem_cons_zero, List.getElem_cons_succ, List.setIfInBounds_toArray, List.set_cons_zero, List.set_cons_succ]
      refine wpAnyH_take (i := 11) (v := undef) rfl (by kernel_rfl) (by kernel_rfl) (by kernel_rfl) (fun _ _ _ h => h) (Or.inr ⟨by rfl, rfl⟩) hH0 ?_
      try simp only [Act.put, List.getElem_toArray, List.getElem_cons_zero, List.getElem_cons_succ, List.setIfInBounds_toArray, List.set_cons_zero, List.set_cons_succ]
      refine wpAnyH_take (i := 12) (v := ?_) rfl (by kernel_rfl) (by kernel_rfl) (by kernel_rfl) (fun _ _ _ h => h) (Or.inl ⟨by rfl, ?_⟩) hH0 ?_
      rotate_left
      · intro w hSw; (try dsimp only at hSw); (try simp only [List.getElem_toArray, List.getElem_cons_zero, List.getElem_cons_succ]); go_simp <;> with_reducible rfl
      try simp only [Act.put, List.getElem_toArray, List.getElem_cons_zero, List.getElem_cons_succ, List.setIfInBounds_toArray, List.set_cons_zero, List.set_cons_succ]
      refine wpAnyH_take (i := 13) (v := ?_) rfl (by kernel_rfl) (by kernel_rfl) (by kernel_rfl) (fun _ _ _ h => h) (Or.inl ⟨by rfl, ?_⟩) hH0 ?_
      rotate_left
      · intro w hSw; (try dsimp only at hSw); (try simp only [List.getElem_toArray, List.getElem_cons_zero, List.getElem_cons_succ]); go_simp <;> with_reducible rfl
      try simp only [Act.put, List.getElem_toArray, List.getElem_cons_zero, List.getElem_cons_succ, List.setIfInBounds_toArray, List.set_cons_zero, List.set_cons_succ]
      refine wpAnyH_take (i := 14) (v := undef) rfl (by kernel_rfl) (by kernel_rfl) (by kernel_rfl) (fun _ _ _ h => h) (Or.inr ⟨by rfl, rfl⟩) hH0 ?_
      try simp only [Act.put, List.getElem_toArray, List.getElem_cons_zero, List.getElem_cons_succ, List.setIfInBounds_toArray, List.set_cons_zero, List.set_cons_succ]
      refine wpAnyH_take (i := 15) (v := ?_) rfl (by kernel_rfl) (by kernel_rfl) (by kernel_rfl) (fun _ _ _ h => h) (Or.inl ⟨by rfl, ?_⟩) hH0 ?_
      rotate_left
      · intro w hSw; (try dsimp only at hSw); (try simp only [List.getElem_toArray, List.getElem_cons_zero, List.getElem_cons_succ]); go_simp <;> with_reducible rfl
      try simp only [Act.put, List.getElem_toArray, List.getElem_cons_zero, List.getElem_cons_succ, List.setIfInBounds_toArray, List.set_cons_zero, List.set_cons_succ]
      refine wpAnyH_take (i := 16) (v := ?_) rfl (by kernel_rfl) (by kernel_rfl) (by kernel_rfl) (fun _ _ _ h => h) (Or.inl ⟨by rfl, ?_⟩) hH0 ?_
      rotate_left
      · intro w hSw; (try dsimp only at hSw); (try simp only [List.getElem_toArray, List.getElem_cons_zero, List.getElem_cons_succ]); go_simp <;> with_reducible rfl
      try simp only [Act.put, List.getElem_toArray, List.getElem_cons_zero, List.getElem_cons_succ, List.setIfInBounds_toArray, List.set_cons_zero, List.set_cons_succ]
      refine wpAnyH_take (i := 17) (v := ?_) rfl (by kernel_rfl) (by kernel_rfl) (by kernel_rfl) (fun _ _ _ h => h) (Or.inl ⟨by rfl, ?_⟩) hH0 ?_
      rotate_left
      · intro w hSw; (try dsimp only at hSw); (try simp only [List.getElem_toArray, List.getElem_cons_zero, List.getElem_cons_succ]); go_simp <;> with_reducible rfl
      try simp only [Act.put, List.getElem_toArray, List.getElem_cons_zero, List.getElem_cons_succ, List.setIfInBounds_toArray, List.set_cons_zero, List.set_cons_succ]
      refine wpAnyH_ready (rs := [18, 20]) (by kernel_rfl) (by simp) ?_
      refine AllReadyH.cons rfl (fun KK hK => ?_) (AllReadyH.cons rfl (fun KK hK => ?_) AllReadyH.nil)
      · show ite _ _ _
        refine step_appE (w := w3.drew) rfl _ _ _ rfl w3.heap.size [] L (.slice none 0 0) (.slice aA L.length cA) rfl rfl (OwnE.empty _ _) (HSR.out _ (Below.refl _ _).drew) ?_ ?_ ?_
        · first | exact Nat.le_refl _ | simp
        · have := HLL.out; simp; omega
        intro v4 w4 ho4 hb4; rw [List.nil_append] at ho4; obtain ⟨a4, cap4, rfl⟩ := ho4.rd.shape; have HO4 := Lib.hid ho4; have HB4 : Hid (Below w3.heap.size w3 w4) := Lib.hid ((Below.refl _ _).drew.trans hb4); have M4 := Lib.hid (M3.out.keep (HB4.out.mono HW3.out)); clear ho4 hb4
        refine hK.out _ _ M4.out.c6 (fun hH1 => ?_)
        clear hK KK hH0
        try simp only [Act.put, List.getElem_toArray, List.getElem_cons_zero, List.getElem_cons_succ, List.setIfInBounds_toArray, List.set_cons_zero, List.set_cons_succ]
        refine wpAnyH_take (i := 19) (v := ?_) rfl (by kernel_rfl) (by kernel_rfl) (by kernel_rfl) (fun _ _ _ h => h) (Or.inl ⟨by rfl, ?_⟩) hH1 ?_
        rotate_left
        · intro w hSw; (try dsimp only at hSw); (try simp only [List.getElem_toArray, List.getElem_cons_zero, List.getElem_cons_succ]); go_simp <;> with_reducible rfl
        try simp only [Act.put, List.getElem_toArray, List.getElem_cons_zero, List.getElem_cons_succ, List.setIfInBounds_toArray, List.set_cons_zero, List.set_cons_succ]
        refine wpAnyH_ready (rs := [20]) (by kernel_rfl) (by simp) ?_
        refine AllReadyH.cons rfl (fun KK hK => ?_) AllReadyH.nil
        (dsimp only [List.getElem_toArray, List.getElem_cons_zero, List.getElem_cons_succ])
        rw [if_pos (by rfl)]
        go_simp
        refine hK.out _ _ (M4.out.al _).c6 (fun hH2 => ?_)
        clear hK KK hH1
        try simp only [Act.put, List.getElem_toArray, List.getElem_cons_zero, List.getElem_cons_succ, List.setIfInBounds_toArray, List.set_cons_zero, List.set_cons_succ]
        refine wpAnyH_ready (rs := [21]) (by kernel_rfl) (by simp) ?_
        refine AllReadyH.cons rfl (fun KK hK => ?_) AllReadyH.nil
        (dsimp only [List.getElem_toArray, List.getElem_cons_zero, List.getElem_cons_succ])
        rw [if_pos (by rfl)]
        go_simp
        refine hK.out _ _ (M4.out.al _).c6 (fun hH3 => ?_)
        clear hK KK hH2
        try simp only [Act.put, List.getElem_toArray, List.getElem_cons_zero, List.getElem_cons_succ, List.setIfInBounds_toArray, List.set_cons_zero, List.set_cons_succ]
        refine wpAnyH_done (by kernel_rfl) ?_ _
        refine hG _ _ _ ⟨[_, _, _, _, _, _, _, _, _, _, _, _, _, _, _, _, _, _, _, _], rfl, rfl⟩ ?_
        exact ⟨_, _, _, rfl, Lib.hid ⟨RQ.newA HO4.out HB4.out.size, M4.out.go (b1 _)⟩⟩
      · (dsimp only [List.getElem_toArray, List.getElem_cons_zero, List.getElem_cons_succ])
        rw [if_pos (by rfl)]
        go_simp
        have M5 := Lib.hid (M3.out.drew.al (.cells #[.int .i64 0, .int .i64 0, .int .i64 0, .slice none 0 0, .bool false] 25))
        refine hK.out _ _ M5.out.c6 (fun hH1 => ?_)
        clear hK KK hH0
        try simp only [Act.put, List.getElem_toArray, List.getElem_cons_zero, List.getElem_cons_succ, List.setIfInBounds_toArray, List.set_cons_zero, List.set_cons_succ]
        refine wpAnyH_ready (rs := [18]) (by kernel_rfl) (by simp) ?_
        refine AllReadyH.cons rfl (fun KK hK => ?_) AllReadyH.nil
        show ite _ _ _
        refine step_appE rfl _ _ _ rfl (w3.heap.size + 1) [] L _ _ rfl rfl (OwnE.empty _ _) (HSR.out _ (by first | exact b1 _ | exact (b1 _).drew | exact (Below.refl _ _).drew.trans (b1 _))) ?_ ?_ ?_
        · with_reducible_and_instances first | exact allocQ_size _ _ | exact allocQ_size2 _ _
        · have := HLL.out; simp; omega
        intro v4 w4 ho4 hb4; rw [List.nil_append] at ho4; obtain ⟨a4, cap4, rfl⟩ := ho4.rd.shape; have HO4 := Lib.hid ho4; have HZ4 := Lib.hid (HZ.out w4 (by first | exact hb4 | exact (Below.refl _ _).drew.trans hb4)); obtain ⟨⟨z0, z1, z2, z3, z4⟩, x0', x1', x2', x3', x4'⟩ := HZ4.out.1.cells; have M4 := Lib.hid (M3.out.keep (HZ4.out.2.mono HW3.out)); clear ho4 hb4
        refine hK.out _ _ M4.out.c6 (fun hH2 => ?_)
        clear hK KK hH1
        try simp only [Act.put, List.getElem_toArray, List.getElem_cons_zero, List.getElem_cons_succ, List.setIfInBounds_toArray, List.set_cons_zero, List.set_cons_succ]
        refine wpAnyH_take (i := 19) (v := ?_) rfl (by kernel_rfl) (by kernel_rfl) (by kernel_rfl) (fun _ _ _ h => h) (Or.inl ⟨by rfl, ?_⟩) hH2 ?_
        rotate_left
        · intro w hSw; (try dsimp only at hSw); (try simp only [List.getElem_toArray, List.getElem_cons_zero, List.getElem_cons_succ]); go_simp <;> with_reducible rfl
        try simp only [Act.put, List.getElem_toArray, List.getElem_cons_zero, List.getElem_cons_succ, List.setIfInBounds_toArray, List.set_cons_zero, List.set_cons_succ]
        refine wpAnyH_ready (rs := [21]) (by kernel_rfl) (by simp) ?_
        refine AllReadyH.cons rfl (fun KK hK => ?_) AllReadyH.nil
        (dsimp only [List.getElem_toArray, List.getElem_cons_zero, List.getElem_cons_succ])
        rw [if_pos (by rfl)]
        go_simp
        refine hK.out _ _ (HPUT.out _ _ _ (HPUT.out _ _ _ (HPUT.out _ _ _ (HPUT.out _ _ _ (HPUT.out _ _ _ M4.out))))).c6 (fun hH3 => ?_)
        clear hK KK hH2
        try simp only [Act.put, List.getElem_toArray, List.getElem_cons_zero, List.getElem_cons_succ, List.setIfInBounds_toArray, List.set_cons_zero, List.set_cons_succ]
        refine wpAnyH_done (by kernel_rfl) ?_ _
        refine hG _ _ _ ⟨[_, _, _, _, _, _, _, _, _, _, _, _, _, _, _, _, _, _, _, _], rfl, rfl⟩ ?_
        exact ⟨_, _, _, rfl, Lib.hid ⟨RQ.newB HZ4.out.1 HO4.out, M4.out.keep (bsetB (bsetB (bsetB (bsetB (bsetB (Below.refl _ _) _ _ _ HW3.out) _ _ _ HW3.out) _ _ _ HW3.out) _ _ _ HW3.out) _ _ _ HW3.out)⟩⟩
    · clear HSML HBIG HAL HAM HGV HGL HGM hy hy2 hs0 hs1 hk HR HR2 HLW
      refine wp_region_held_drew (S := (fun w' => w'.cell? ⟨w.heap.size, 0, none⟩ = some (.int .i64 S) ∧ w'.cell? ⟨w.heap.size, 3, none⟩ = some (.slice aA L.length cA) ∧ w'.cell? ⟨w.heap.size, 4, none⟩ = some (.bool false) ∧ w'.cell? ⟨w.heap.size + 1, 4, none⟩ = some (.bool false))) (by kernel_rfl) ?_ (fun hH0 => ?_)
      · exact M3.out.drew.c6
      refine wpAnyH_take (i := 0) (v := ?_) rfl (by kernel_rfl) (by kernel_rfl) (by kernel_rfl) (fun _ _ _ h => h) (Or.inl ⟨by rfl, ?_⟩) hH0 ?_
      rotate_left
      · intro w hSw; (try dsimp only at hSw); (try simp only [List.getElem_toArray, List.getElem_cons_zero, List.getElem_cons_succ]); go_simp <;> with_reducible rfl
      try simp only [Act.put, List.getElem_toArray, List.getElem_cons_zero, List.getElem_cons_succ, List.setIfInBounds_toArray, List.set_cons_zero, List.set_cons_succ]
      refine wpAnyH_take (i := 1) (v := ?_) rfl (by kernel_rfl) (by kernel_rfl) (by kernel_rfl) (fun _ _ _ h => h) (Or.inl ⟨by rfl, ?_⟩) hH0 ?_
      rotate_left
      · intro w hSw; (try dsimp only at hSw); (try simp only [List.getElem_toArray, List.getElem_cons_zero, List.getElem_cons_succ]); go_simp <;> with_reducible rfl
      try simp only [Act.put, List.getElem_toArray, List.getElem_cons_zero, List.getElem_cons_succ, List.setIfInBounds_toArray, List.set_cons_zero, List.set_cons_succ]
      refine wpAnyH_take (i := 2) (v := ?_) rfl (by kernel_rfl) (by kernel_rfl) (by kernel_rfl) (fun _ _ _ h => h) (Or.inl ⟨by rfl, ?_⟩) hH0 ?_
      rotate_left
      · intro w hSw; (try dsimp only at hSw); (try simp only [List.getElem_toArray, List.getElem_cons_zero, List.getElem_cons_succ]); go_simp <;> with_reducible rfl
      try simp only [Act.put, List.getElem_toArray, List.getElem_cons_zero, List.getElem_cons_succ, List.setIfInBounds_toArray, List.set_cons_zero, List.set_cons_succ]
      refine wpAnyH_take (i := 3) (v := ?_) rfl (by kernel_rfl) (by kernel_rfl) (by kernel_rfl) (fun _ _ _ h => h) (Or.inl ⟨by rfl, ?_⟩) hH0 ?_
      rotate_left
      · intro w hSw; (try dsimp only at hSw); (try simp only [List.getElem_toArray, List.getElem_cons_zero, List.getElem_cons_succ]); go_simp <;> with_reducible rfl
      try simp only [Act.put, List.getElem_toArray, List.getElem_cons_zero, List.getElem_cons_succ, List.setIfInBounds_toArray, List.set_cons_zero, List.set_cons_succ]
      refine wpAnyH_take (i := 4) (v := ?_) rfl (by kernel_rfl) (by kernel_rfl) (by kernel_rfl) (fun _ _ _ h => h) (Or.inl ⟨by rfl, ?_⟩) hH0 ?_
      rotate_left
      · intro w hSw; (try dsimp only at hSw); (try simp only [List.getElem_toArray, List.getElem_cons_zero, List.getElem_cons_succ]); go_simp <;> with_reducible rfl
      try simp only [Act.put, List.getElem_toArray, List.getElem_cons_zero, List.getElem_cons_succ, List.setIfInBounds_toArray, List.set_cons_zero, List.set_cons_succ]
      refine wpAnyH_take (i := 5) (v := ?_) rfl (by kernel_rfl) (by kernel_rfl) (by kernel_rfl) (fun _ _ _ h => h) (Or.inl ⟨by rfl, ?_⟩) hH0 ?_
      rotate_left
      · intro w hSw; (try dsimp only at hSw); (try simp only [List.getElem_toArray, List.getElem_cons_zero, List.getElem_cons_succ]); go_simp <;> with_reducible rfl
      try simp only [Act.put, List.getElem_toArray, List.getElem_cons_zero, List.getElem_cons_succ, List.setIfInBounds_toArray, List.set_cons_zero, List.set_cons_succ]
      refine wpAnyH_take (i := 6) (v := ?_) rfl (by kernel_rfl) (by kernel_rfl) (by kernel_rfl) (fun _ _ _ h => h) (Or.inl ⟨by rfl, ?_⟩) hH0 ?_
      rotate_left
      · intro w hSw; (try dsimp only at hSw); (try simp only [List.getElem_toArray, List.getElem_cons_zero, List.getElem_cons_succ]); go_simp <;> with_reducible rfl
      try simp only [Act.put, List.getElem_toArray, List.getElem_cons_zero, List.getElem_cons_succ, List.setIfInBounds_toArray, List.set_cons_zero, List.set_cons_succ]
      refine wpAnyH_take (i := 7) (v := ?_) rfl (by kernel_rfl) (by kernel_rfl) (by kernel_rfl) (fun _ _ _ h => h) (Or.inl ⟨by rfl, ?_⟩) hH0 ?_
      rotate_left
      · intro w hSw; (try dsimp only at hSw); (try simp only [List.getElem_toArray, List.getElem_cons_zero, List.getElem_cons_succ]); go_simp <;> with_reducible rfl
      try simp only [Act.put, List.getElem_toArray, List.getElem_cons_zero, List.getElem_cons_succ, List.setIfInBounds_toArray, List.set_cons_zero, List.set_cons_succ]
      refine wpAnyH_take (i := 8) (v := ?_) rfl (by kernel_rfl) (by kernel_rfl) (by kernel_rfl) (fun _ _ _ h => h) (Or.inl ⟨by rfl, ?_⟩) hH0 ?_
      rotate_left
      · intro w hSw; (try dsimp only at hSw); (try simp only [List.getElem_toArray, List.getElem_cons_zero, List.getElem_cons_succ]); go_simp <;> with_reducible rfl
      try simp only [Act.put, List.getElem_toArray, List.getElem_cons_zero, List.getElem_cons_succ, List.setIfInBounds_toArray, List.set_cons_zero, List.set_cons_succ]
      refine wpAnyH_take (i := 9) (v := ?_) rfl (by kernel_rfl) (by kernel_rfl) (by kernel_rfl) (fun _ _ _ h => h) (Or.inl ⟨by rfl, ?_⟩) hH0 ?_
      rotate_left
      · intro w hSw; (try dsimp only at hSw); (try simp only [List.getElem_toArray, List.getElem_cons_zero, List.getElem_cons_succ]); go_simp <;> with_reducible rfl
      try simp only [Act.put, List.getElem_toArray, List.getElem_cons_zero, List.getElem_cons_succ, List.setIfInBounds_toArray, List.set_cons_zero, List.set_cons_succ]
      refine wpAnyH_take (i := 10) (v := ?_) rfl (by kernel_rfl) (by kernel_rfl) (by kernel_rfl) (fun _ _ _ h => h) (Or.inl ⟨by rfl, ?_⟩) hH0 ?_
      rotate_left
      · intro w hSw; (try dsimp only at hSw); (try simp only [List.getElem_toArray, List.getElem_cons_zero, List.getElem_cons_succ]); go_simp <;> with_reducible rfl
      try simp only [Act.put, List.getElem_toArray, List.getElem_cons_zero, List.getElem_cons_succ, List.setIfInBounds_toArray, List.set_cons_zero, List.set_cons_succ]
      refine wpAnyH_take (i := 11) (v := ?_) rfl (by kernel_rfl) (by kernel_rfl) (by kernel_rfl) (fun _ _ _ h => h) (Or.inl ⟨by rfl, ?_⟩) hH0 ?_
      rotate_left
      · intro w hSw; (try dsimp only at hSw); (try simp only [List.getElem_toArray, List.getElem_cons_zero, List.getElem_cons_succ]); go_simp <;> with_reducible rfl
      try simp only [Act.put, List.getElem_toArray, List.getElem_cons_zero, List.getElem_cons_succ, List.setIfInBounds_toArray, List.set_cons_zero, List.set_cons_succ]
      refine wpAnyH_take (i := 12) (v := ?_) rfl (by kernel_rfl) (by kernel_rfl) (by kernel_rfl) (fun _ _ _ h => h) (Or.inl ⟨by rfl, ?_⟩) hH0 ?_
      rotate_left
      · intro w hSw; (try dsimp only at hSw); (try simp only [List.getElem_toArray, List.getElem_cons_zero, List.getElem_cons_succ]); go_simp <;> with_reducible rfl
      try simp only [Act.put, List.getElem_toArray, List.getElem_cons_zero, List.getElem_cons_succ, List.setIfInBounds_toArray, List.set_cons_zero, List.set_cons_succ]
      refine wpAnyH_take (i := 13) (v := ?_) rfl (by kernel_rfl) (by kernel_rfl) (by kernel_rfl) (fun _ _ _ h => h) (Or.inl ⟨by rfl, ?_⟩) hH0 ?_
      rotate_left
      · intro w hSw; (try dsimp only at hSw); (try simp only [List.getElem_toArray, List.getElem_cons_zero, List.getElem_cons_succ]); go_simp <;> with_reducible rfl
      try simp only [Act.put, List.getElem_toArray, List.getElem_cons_zero, List.getElem_cons_succ, List.setIfInBounds_toArray, List.set_cons_zero, List.set_cons_succ]
      refine wpAnyH_take (i := 14) (v := undef) rfl (by kernel_rfl) (by kernel_rfl) (by kernel_rfl) (fun _ _ _ h => h) (Or.inr ⟨by rfl, rfl⟩) hH0 ?_
      try simp only [Act.put, List.getElem_toArray, List.getElem_cons_zero, List.getElem_cons_succ, List.setIfInBounds_toArray, List.set_cons_zero, List.set_cons_succ]
      refine wpAnyH_take (i := 15) (v := ?_) rfl (by kernel_rfl) (by kernel_rfl) (by kernel_rfl) (fun _ _ _ h => h) (Or.inl ⟨by rfl, ?_⟩) hH0 ?_
      rotate_left
      · intro w hSw; (try dsimp only at hSw); (try simp only [List.getElem_toArray, List.getElem_cons_zero, List.getElem_cons_succ]); go_simp <;> with_reducible rfl
      try simp only [Act.put, List.getElem_toArray, List.getElem_cons_zero, List.getElem_cons_succ, List.setIfInBounds_toArray, List.set_cons_zero, List.set_cons_succ]
      refine wpAnyH_take (i := 16) (v := ?_) rfl (by kernel_rfl) (by kernel_rfl) (by kernel_rfl) (fun _ _ _ h => h) (Or.inl ⟨by rfl, ?_⟩) hH0 ?_
      rotate_left
      · intro w hSw; (try dsimp only at hSw); (try simp only [List.getElem_toArray, List.getElem_cons_zero, List.getElem_cons_succ]); go_simp <;> with_reducible rfl
      try simp only [Act.put, List.getElem_toArray, List.getElem_cons_zero, List.getElem_cons_succ, List.setIfInBounds_toArray, List.set_cons_zero, List.set_cons_succ]
      refine wpAnyH_take (i := 17) (v := ?_) rfl (by kernel_rfl) (by kernel_rfl) (by kernel_rfl) (fun _ _ _ h => h) (Or.inl ⟨by rfl, ?_⟩) hH0 ?_
      rotate_left
      · intro w hSw; (try dsimp only at hSw); (try simp only [List.getElem_toArray, List.getElem_cons_zero, List.getElem_cons_succ]); go_simp <;> with_reducible rfl
      try simp only [Act.put, List.getElem_toArray, List.getElem_cons_zero, List.getElem_cons_succ, List.setIfInBounds_toArray, List.set_cons_zero, List.set_cons_succ]
      refine wpAnyH_ready (rs := [18, 20]) (by kernel_rfl) (by simp) ?_
      refine AllReadyH.cons rfl (fun KK hK => ?_) (AllReadyH.cons rfl (fun KK hK => ?_) AllReadyH.nil)
      · show ite _ _ _
        refine step_appE (w := w3.drew) rfl _ _ _ rfl w3.heap.size [] L (.slice none 0 0) (.slice aA L.length cA) rfl rfl (OwnE.empty _ _) (HSR.out _ (Below.refl _ _).drew) ?_ ?_ ?_
        · first | exact Nat.le_refl _ | simp
        · have := HLL.out; simp; omega
        intro v4 w4 ho4 hb4; rw [List.nil_append] at ho4; obtain ⟨a4, cap4, rfl⟩ := ho4.rd.shape; have HO4 := Lib.hid ho4; have HB4 : Hid (Below w3.heap.size w3 w4) := Lib.hid ((Below.refl _ _).drew.trans hb4); have M4 := Lib.hid (M3.out.keep (HB4.out.mono HW3.out)); clear ho4 hb4
        refine hK.out _ _ M4.out.c6 (fun hH1 => ?_)
        clear hK KK hH0
        try simp only [Act.put, List.getElem_toArray, List.getElem_cons_zero, List.getElem_cons_succ, List.setIfInBounds_toArray, List.set_cons_zero, List.set_cons_succ]
        refine wpAnyH_take (i := 19) (v := ?_) rfl (by kernel_rfl) (by kernel_rfl) (by kernel_rfl) (fun _ _ _ h => h) (Or.inl ⟨by rfl, ?_⟩) hH1 ?_
        rotate_left
        · intro w hSw; (try dsimp only at hSw); (try simp only [List.getElem_toArray, List.getElem_cons_zero, List.getElem_cons_succ]); go_simp <;> with_reducible rfl
        try simp only [Act.put, List.getElem_toArray, List.getElem_cons_zero, List.getElem_cons_succ, List.setIfInBounds_toArray, List.set_cons_zero, List.set_cons_succ]
        refine wpAnyH_ready (rs := [20]) (by kernel_rfl) (by simp) ?_
        refine AllReadyH.cons rfl (fun KK hK => ?_) AllReadyH.nil
        (dsimp only [List.getElem_toArray, List.getElem_cons_zero, List.getElem_cons_succ])
        rw [if_pos (by rfl)]
        go_simp
        refine hK.out _ _ (M4.out.al _).c6 (fun hH2 => ?_)
        clear hK KK hH1
        try simp only [Act.put, List.getElem_toArray, List.getElem_cons_zero, List.getElem_cons_succ, List.setIfInBounds_toArray, List.set_cons_zero, List.set_cons_succ]
        refine wpAnyH_ready (rs := [21]) (by kernel_rfl) (by simp) ?_
        refine AllReadyH.cons rfl (fun KK hK => ?_) AllReadyH.nil
        (dsimp only [List.getElem_toArray, List.getElem_cons_zero, List.getElem_cons_succ])
        rw [if_pos (by rfl)]
        go_simp
        refine hK.out _ _ (M4.out.al _).c6 (fun hH3 => ?_)
        clear hK KK hH2
        try simp only [Act.put, List.getElem_toArray, List.getElem_cons_zero, List.getElem_cons_succ, List.setIfInBounds_toArray, List.set_cons_zero, List.set_cons_succ]
        refine wpAnyH_done (by kernel_rfl) ?_ _
        refine hG _ _ _ ⟨[_, _, _, _, _, _, _, _, _, _, _, _, _, _, _, _, _, _, _, _], rfl, rfl⟩ ?_
        exact ⟨_, _, _, rfl, Lib.hid ⟨RQ.newA HO4.out HB4.out.size, M4.out.go (b1 _)⟩⟩
      · (dsimp only [List.getElem_toArray, List.getElem_cons_zero, List.getElem_cons_succ])
        rw [if_pos (by rfl)]
        go_simp
        have M5 := Lib.hid (M3.out.drew.al (.cells #[.int .i64 0, .int .i64 0, .int .i64 0, .slice none 0 0, .bool false] 25))
        refine hK.out _ _ M5.out.c6 (fun hH1 => ?_)
        clear hK KK hH0
        try simp only [Act.put, List.getElem_toArray, List.getElem_cons_zero, List.getElem_cons_succ, List.setIfInBounds_toArray, List.set_cons_zero, List.set_cons_succ]
        refine wpAnyH_ready (rs := [18]) (by kernel_rfl) (by simp) ?_
        refine AllReadyH.cons rfl (fun KK hK => ?_) AllReadyH.nil
        show ite _ _ _
        refine step_appE rfl _ _ _ rfl (w3.heap.size + 1) [] L _ _ rfl rfl (OwnE.empty _ _) (HSR.out _ (by first | exact b1 _ | exact (b1 _).drew | exact (Below.refl _ _).drew.trans (b1 _))) ?_ ?_ ?_
        · with_reducible_and_instances first | exact allocQ_size _ _ | exact allocQ_size2 _ _
        · have := HLL.out; simp; omega
        intro v4 w4 ho4 hb4; rw [List.nil_append] at ho4; obtain ⟨a4, cap4, rfl⟩ := ho4.rd.shape; have HO4 := Lib.hid ho4; have HZ4 := Lib.hid (HZ.out w4 (by first | exact hb4 | exact (Below.refl _ _).drew.trans hb4)); obtain ⟨⟨z0, z1, z2, z3, z4⟩, x0', x1', x2', x3', x4'⟩ := HZ4.out.1.cells; have M4 := Lib.hid (M3.out.keep (HZ4.out.2.mono HW3.out)); clear ho4 hb4
        refine hK.out _ _ M4.out.c6 (fun hH2 => ?_)
        clear hK KK hH1
        try simp only [Act.put, List.getElem_toArray, List.getElem_cons_zero, List.getElem_cons_succ, List.setIfInBounds_toArray, List.set_cons_zero, List.set_cons_succ]
        refine wpAnyH_take (i := 19) (v := ?_) rfl (by kernel_rfl) (by kernel_rfl) (by kernel_rfl) (fun _ _ _ h => h) (Or.inl ⟨by rfl, ?_⟩) hH2 ?_
        rotate_left
        · intro w hSw; (try dsimp only at hSw); (try simp only [List.getElem_toArray, List.getElem_cons_zero, List.getElem_cons_succ]); go_simp <;> with_reducible rfl
        try simp only [Act.put, List.getElem_toArray, List.getElem_cons_zero, List.getElem_cons_succ, List.setIfInBounds_toArray, List.set_cons_zero, List.set_cons_succ]
        refine wpAnyH_ready (rs := [21]) (by kernel_rfl) (by simp) ?_
        refine AllReadyH.cons rfl (fun KK hK => ?_) AllReadyH.nil
        (dsimp only [List.getElem_toArray, List.getElem_cons_zero, List.getElem_cons_succ])
        rw [if_pos (by rfl)]
        go_simp
        refine hK.out _ _ (HPUT.out _ _ _ (HPUT.out _ _ _ (HPUT.out _ _ _ (HPUT.out _ _ _ (HPUT.out _ _ _ M4.out))))).c6 (fun hH3 => ?_)
        clear hK KK hH2
        try simp only [Act.put, List.getElem_toArray, List.getElem_cons_zero, List.getElem_cons_succ, List.setIfInBounds_toArray, List.set_cons_zero, List.set_cons_succ]
        refine wpAnyH_done (by kernel_rfl) ?_ _
        refine hG _ _ _ ⟨[_, _, _, _, _, _, _, _, _, _, _, _, _, _, _, _, _, _, _, _], rfl, rfl⟩ ?_
        exact ⟨_, _, _, rfl, Lib.hid ⟨RQ.newB HZ4.out.1 HO4.out, M4.out.keep (bsetB (bsetB (bsetB (bsetB (bsetB (Below.refl _ _) _ _ _ HW3.out) _ _ _ HW3.out) _ _ _ HW3.out) _ _ _ HW3.out) _ _ _ HW3.out)⟩⟩
    · clear HSML HBIG HAL HAM HGV HGL HGM hy hy2 hs0 hs1 hk HR HR2 HLW
      refine wp_region_held_drew (S := (fun w' => w'.cell? ⟨w.heap.size, 0, none⟩ = some (.int .i64 S) ∧ w'.cell? ⟨w.heap.size, 3, none⟩ = some (.slice aA L.length cA) ∧ w'.cell? ⟨w.heap.size, 4, none⟩ = some (.bool false) ∧ w'.cell? ⟨w.heap.size + 1, 4, none⟩ = some (.bool false))) (by kernel_rfl) ?_ (fun hH0 => ?_)
      · exact M3.out.drew.c6
      refine wpAnyH_take (i := 0) (v := ?_) rfl (by kernel_rfl) (by kernel_rfl) (by kernel_rfl) (fun _ _ _ h => h) (Or.inl ⟨by rfl, ?_⟩) hH0 ?_
      rotate_left
      · intro w hSw; (try dsimp only at hSw); (try simp only [List.getElem_toArray, List.getElem_cons_zero, List.getElem_cons_succ]); go_simp <;> with_reducible rfl
      try simp only [Act.put, List.getElem_toArray, List.getElem_cons_zero, List.getElem_cons_succ, List.setIfInBounds_toArray, List.set_cons_zero, List.set_cons_succ]
      refine wpAnyH_take (i := 1) (v := ?_) rfl (by kernel_rfl) (by kernel_rfl) (by kernel_rfl) (fun _ _ _ h => h) (Or.inl ⟨by rfl, ?_⟩) hH0 ?_
      rotate_left
      · intro w hSw; (try dsimp only at hSw); (try simp only [List.getElem_toArray, List.getElem_cons_zero, List.getElem_cons_succ]); go_simp <;> with_reducible rfl
      try simp only [Act.put, List.getElem_toArray, List.getElem_cons_zero, List.getElem_cons_succ, List.setIfInBounds_toArray, List.set_cons_zero, List.set_cons_succ]
      refine wpAnyH_take (i := 2) (v := ?_) rfl (by kernel_rfl) (by kernel_rfl) (by kernel_rfl) (fun _ _ _ h => h) (Or.inl ⟨by rfl, ?_⟩) hH0 ?_
      rotate_left
      · intro w hSw; (try dsimp only at hSw); (try simp only [List.getElem_toArray, List.getElem_cons_zero, List.getElem_cons_succ]); go_simp <;> with_reducible rfl
      try simp only [Act.put, List.getElem_toArray, List.getElem_cons_zero, List.getElem_cons_succ, List.setIfInBounds_toArray, List.set_cons_zero, List.set_cons_succ]
      refine wpAnyH_take (i := 3) (v := ?_) rfl (by kernel_rfl) (by kernel_rfl) (by kernel_rfl) (fun _ _ _ h => h) (Or.inl ⟨by rfl, ?_⟩) hH0 ?_
      rotate_left
      · intro w hSw; (try dsimp only at hSw); (try simp only [List.getElem_toArray, List.getElem_cons_zero, List.getElem_cons_succ]); go_simp <;> with_reducible rfl
      try simp only [Act.put, List.getElem_toArray, List.getElem_cons_zero, List.getElem_cons_succ, List.setIfInBounds_toArray, List.set_cons_zero, List.set_cons_succ]
      refine wpAnyH_take (i := 4) (v := ?_) rfl (by kernel_rfl) (by kernel_rfl) (by kernel_rfl) (fun _ _ _ h => h) (Or.inl ⟨by rfl, ?_⟩) hH0 ?_
      rotate_left
      · intro w hSw; (try dsimp only at hSw); (try simp only [List.getElem_toArray, List.getElem_cons_zero, List.getElem_cons_succ]); go_simp <;> with_reducible rfl
      try simp only [Act.put, List.getElem_toArray, List.getElem_cons_zero, List.getElem_cons_succ, List.setIfInBounds_toArray, List.set_cons_zero, List.set_cons_succ]
      refine wpAnyH_take (i := 5) (v := ?_) rfl (by kernel_rfl) (by kernel_rfl) (by kernel_rfl) (fun _ _ _ h => h) (Or.inl ⟨by rfl, ?_⟩) hH0 ?_
      rotate_left
      · intro w hSw; (try dsimp only at hSw); (try simp only [List.getElem_toArray, List.getElem_cons_zero, List.getElem_cons_succ]); go_simp <;> with_reducible rfl
      try simp only [Act.put, List.getElem_toArray, List.getElem_cons_zero, List.getElem_cons_succ, List.setIfInBounds_toArray, List.set_cons_zero, List.set_cons_succ]
      refine wpAnyH_take (i := 6) (v := ?_) rfl (by kernel_rfl) (by kernel_rfl) (by kernel_rfl) (fun _ _ _ h => h) (Or.inl ⟨by rfl, ?_⟩) hH0 ?_
      rotate_left
      · intro w hSw; (try dsimp only at hSw); (try simp only [List.getElem_toArray, List.getElem_cons_zero, List.getElem_cons_succ]); go_simp <;> with_reducible rfl
      try simp only [Act.put, List.getElem_toArray, List.getElem_cons_zero, List.getElem_cons_succ, List.setIfInBounds_toArray, List.set_cons_zero, List.set_cons_succ]
      refine wpAnyH_take (i := 7) (v := ?_) rfl (by kernel_rfl) (by kernel_rfl) (by kernel_rfl) (fun _ _ _ h => h) (Or.inl ⟨by rfl, ?_⟩) hH0 ?_
      rotate_left
      · intro w hSw; (try dsimp only at hSw); (try simp only [List.getElem_toArray, List.getElem_cons_zero, List.getElem_cons_succ]); go_simp <;> with_reducible rfl
      try simp only [Act.put, List.getElem_toArray, List.getElem_cons_zero, List.getElem_cons_succ, List.setIfInBounds_toArray, List.set_cons_zero, List.set_cons_succ]
      refine wpAnyH_take (i := 8) (v := ?_) rfl (by kernel_rfl) (by kernel_rfl) (by kernel_rfl) (fun _ _ _ h => h) (Or.inl ⟨by rfl, ?_⟩) hH0 ?_
      rotate_left
      · intro w hSw; (try dsimp only at hSw); (try simp only [List.getElem_toArray, List.getElem_cons_zero, List.getElem_cons_succ]); go_simp <;> with_reducible rfl
      try simp only [Act.put, List.getElem_toArray, List.getElem_cons_zero, List.getElem_cons_succ, List.setIfInBounds_toArray, List.set_cons_zero, List.set_cons_succ]
      refine wpAnyH_take (i := 9) (v := ?_) rfl (by kernel_rfl) (by kernel_rfl) (by kernel_rfl) (fun _ _ _ h => h) (Or.inl ⟨by rfl, ?_⟩) hH0 ?_
      rotate_left
      · intro w hSw; (try dsimp only at hSw); (try simp only [List.getElem_toArray, List.getElem_cons_zero, List.getElem_cons_succ]); go_simp <;> with_reducible rfl
      try simp only [Act.put, List.getElem_toArray, List.getElem_cons_zero, List.getElem_cons_succ, List.setIfInBounds_toArray, List.set_cons_zero, List.set_cons_succ]
      refine wpAnyH_take (i := 10) (v := ?_) rfl (by kernel_rfl) (by kernel_rfl) (by kernel_rfl) (fun _ _ _ h => h) (Or.inl ⟨by rfl, ?_⟩) hH0 ?_
      rotate_left
      · intro w hSw; (try dsimp only at hSw); (try simp only [List.getElem_toArray, List.getElem_cons_zero, List.getElem_cons_succ]); go_simp <;> with_reducible rfl
      try simp only [Act.put, List.getElem_toArray, List.getElem_cons_zero, List.getElem_cons_succ, List.setIfInBounds_toArray, List.set_cons_zero, List.set_cons_succ]
      refine wpAnyH_take (i := 11) (v := ?_) rfl (by kernel_rfl) (by kernel_rfl) (by kernel_rfl) (fun _ _ _ h => h) (Or.inl ⟨by rfl, ?_⟩) hH0 ?_
      rotate_left
      · intro w hSw; (try dsimp only at hSw); (try simp only [List.getElem_toArray, List.getElem_cons_zero, List.getElem_cons_succ]); go_simp <;> with_reducible rfl
      try simp only [Act.put, List.getElem_toArray, List.getElem_cons_zero, List.getElem_cons_succ, List.setIfInBounds_toArray, List.set_cons_zero, List.set_cons_succ]
      refine wpAnyH_take (i := 12) (v := ?_) rfl (by kernel_rfl) (by kernel_rfl) (by kernel_rfl) (fun _ _ _ h => h) (Or.inl ⟨by rfl, ?_⟩) hH0 ?_
      rotate_left
      · intro w hSw; (try dsimp only at hSw); (try simp only [List.getElem_toArray, List.getElem_cons_zero, List.getElem_cons_succ]); go_simp <;> with_reducible rfl
      try simp only [Act.put, List.getElem_toArray, List.getElem_cons_zero, List.getElem_cons_succ, List.setIfInBounds_toArray, List.set_cons_zero, List.set_cons_succ]
      refine wpAnyH_take (i := 13) (v := ?_) rfl (by kernel_rfl) (by kernel_rfl) (by kernel_rfl) (fun _ _ _ h => h) (Or.inl ⟨by rfl, ?_⟩) hH0 ?_
      rotate_left
      · intro w hSw; (try dsimp only at hSw); (try simp only [List.getElem_toArray, List.getElem_cons_zero, List.getElem_cons_succ]); go_simp <;> with_reducible rfl
      try simp only [Act.put, List.getElem_toArray, List.getElem_cons_zero, List.getElem_cons_succ, List.setIfInBounds_toArray, List.set_cons_zero, List.set_cons_succ]
      refine wpAnyH_take (i := 14) (v := ?_) rfl (by kernel_rfl) (by kernel_rfl) (by kernel_rfl) (fun _ _ _ h => h) (Or.inl ⟨by rfl, ?_⟩) hH0 ?_
      rotate_left
      · intro w hSw; (try dsimp only at hSw); (try simp only [List.getElem_toArray, List.getElem_cons_zero, List.getElem_cons_succ]); go_simp <;> with_reducible rfl
      try simp only [Act.put, List.getElem_toArray, List.getElem_cons_zero, List.getElem_cons_succ, List.setIfInBounds_toArray, List.set_cons_zero, List.set_cons_succ]
      refine wpAnyH_take (i := 15) (v := ?_) rfl (by kernel_rfl) (by kernel_rfl) (by kernel_rfl) (fun _ _ _ h => h) (Or.inl ⟨by rfl, ?_⟩) hH0 ?_
      rotate_left
      · intro w hSw; (try dsimp only at hSw); (try simp only [List.getElem_toArray, List.getElem_cons_zero, List.getElem_cons_succ]); go_simp <;> with_reducible rfl
      try simp only [Act.put, List.getElem_toArray, List.getElem_cons_zero, List.getElem_cons_succ, List.setIfInBounds_toArray, List.set_cons_zero, List.set_cons_succ]
      refine wpAnyH_take (i := 16) (v := ?_) rfl (by kernel_rfl) (by kernel_rfl) (by kernel_rfl) (fun _ _ _ h => h) (Or.inl ⟨by rfl, ?_⟩) hH0 ?_
      rotate_left
      · intro w hSw; (try dsimp only at hSw); (try simp only [List.getElem_toArray, List.getElem_cons_zero, List.getElem_cons_succ]); go_simp <;> with_reducible rfl
      try simp only [Act.put, List.getElem_toArray, List.getElem_cons_zero, List.getElem_cons_succ, List.setIfInBounds_toArray, List.set_cons_zero, List.set_cons_succ]
      refine wpAnyH_take (i := 17) (v := ?_) rfl (by kernel_rfl) (by kernel_rfl) (by kernel_rfl) (fun _ _ _ h => h) (Or.inl ⟨by rfl, ?_⟩) hH0 ?_
      rotate_left
      · intro w hSw; (try dsimp only at hSw); (try simp only [List.getElem_toArray, List.getElem_cons_zero, List.getElem_cons_succ]); go_simp <;> with_reducible rfl
      try simp only [Act.put, List.getElem_toArray, List.getElem_cons_zero, List.getElem_cons_succ, List.setIfInBounds_toArray, List.set_cons_zero, List.set_cons_succ]
      refine wpAnyH_ready (rs := [18, 20]) (by kernel_rfl) (by simp) ?_
      refine AllReadyH.cons rfl (fun KK hK => ?_) (AllReadyH.cons rfl (fun KK hK => ?_) AllReadyH.nil)
      · show ite _ _ _
        refine step_appE (w := w3.drew) rfl _ _ _ rfl w3.heap.size [] L (.slice none 0 0) (.slice aA L.length cA) rfl rfl (OwnE.empty _ _) (HSR.out _ (Below.refl _ _).drew) ?_ ?_ ?_
        · first | exact Nat.le_refl _ | simp
        · have := HLL.out; simp; omega
        intro v4 w4 ho4 hb4; rw [List.nil_append] at ho4; obtain ⟨a4, cap4, rfl⟩ := ho4.rd.shape; have HO4 := Lib.hid ho4; have HB4 : Hid (Below w3.heap.size w3 w4) := Lib.hid ((Below.refl _ _).drew.trans hb4); have M4 := Lib.hid (M3.out.keep (HB4.out.mono HW3.out)); clear ho4 hb4
        refine hK.out _ _ M4.out.c6 (fun hH1 => ?_)
        clear hK KK hH0
        try simp only [Act.put, List.getElem_toArray, List.getElem_cons_zero, List.getElem_cons_succ, List.setIfInBounds_toArray, List.set_cons_zero, List.set_cons_succ]
        refine wpAnyH_take (i := 19) (v := ?_) rfl (by kernel_rfl) (by kernel_rfl) (by kernel_rfl) (fun _ _ _ h => h) (Or.inl ⟨by rfl, ?_⟩) hH1 ?_
        rotate_left
        · intro w hSw; (try dsimp only at hSw); (try simp only [List.getElem_toArray, List.getElem_cons_zero, List.getElem_cons_succ]); go_simp <;> with_reducible rfl
        try simp only [Act.put, List.getElem_toArray, List.getElem_cons_zero, List.getElem_cons_succ, List.setIfInBounds_toArray, List.set_cons_zero, List.set_cons_succ]
        refine wpAnyH_ready (rs := [20]) (by kernel_rfl) (by simp) ?_
        refine AllReadyH.cons rfl (fun KK hK => ?_) AllReadyH.nil
        (dsimp only [List.getElem_toArray, List.getElem_cons_zero, List.getElem_cons_succ])
        rw [if_pos (by rfl)]
        go_simp
        refine hK.out _ _ (M4.out.al _).c6 (fun hH2 => ?_)
        clear hK KK hH1
        try simp only [Act.put, List.getElem_toArray, List.getElem_cons_zero, List.getElem_cons_succ, List.setIfInBounds_toArray, List.set_cons_zero, List.set_cons_succ]
        refine wpAnyH_ready (rs := [21]) (by kernel_rfl) (by simp) ?_
        refine AllReadyH.cons rfl (fun KK hK => ?_) AllReadyH.nil
        (dsimp only [List.getElem_toArray, List.getElem_cons_zero, List.getElem_cons_succ])
        rw [if_pos (by rfl)]
        go_simp
        refine hK.out _ _ (M4.out.al _).c6 (fun hH3 => ?_)
        clear hK KK hH2
        try simp only [Act.put, List.getElem_toArray, List.getElem_cons_zero, List.getElem_cons_succ, List.setIfInBounds_toArray, List.set_cons_zero, List.set_cons_succ]
        refine wpAnyH_done (by kernel_rfl) ?_ _
        refine hG _ _ _ ⟨[_, _, _, _, _, _, _, _, _, _, _, _, _, _, _, _, _, _, _, _], rfl, rfl⟩ ?_
        with_reducible exact ⟨_, _, _, rfl, Lib.hid ⟨RQ.newA HO4.out HB4.out.size, M4.out.go (b1 _)⟩⟩
      · (dsimp only [List.getElem_toArray, List.getElem_cons_zero, List.getElem_cons_succ])
        rw [if_pos (by rfl)]
        go_simp
        have M5 := Lib.hid (M3.out.drew.al (.cells #[.int .i64 0, .int .i64 0, .int .i64 0, .slice none 0 0, .bool false] 25))
        refine hK.out _ _ M5.out.c6 (fun hH1 => ?_)
        clear hK KK hH0
        try simp only [Act.put, List.getElem_toArray, List.getElem_cons_zero, List.getElem_cons_succ, List.setIfInBounds_toArray, List.set_cons_zero, List.set_cons_succ]
        refine wpAnyH_ready (rs := [18]) (by kernel_rfl) (by simp) ?_
        refine AllReadyH.cons rfl (fun KK hK => ?_) AllReadyH.nil
        show ite _ _ _
        refine step_appE rfl _ _ _ rfl (w3.heap.size + 1) [] L _ _ rfl rfl (OwnE.empty _ _) (HSR.out _ (by first | exact b1 _ | exact (b1 _).drew | exact (Below.refl _ _).drew.trans (b1 _))) ?_ ?_ ?_
        · with_reducible_and_instances first | exact allocQ_size _ _ | exact allocQ_size2 _ _
        · have := HLL.out; simp; omega
        intro v4 w4 ho4 hb4; rw [List.nil_append] at ho4; obtain ⟨a4, cap4, rfl⟩ := ho4.rd.shape; have HO4 := Lib.hid ho4; have HZ4 := Lib.hid (HZ.out w4 (by first | exact hb4 | exact (Below.refl _ _).drew.trans hb4)); obtain ⟨⟨z0, z1, z2, z3, z4⟩, x0', x1', x2', x3', x4'⟩ := HZ4.out.1.cells; have M4 := Lib.hid (M3.out.keep (HZ4.out.2.mono HW3.out)); clear ho4 hb4
        refine hK.out _ _ M4.out.c6 (fun hH2 => ?_)
        clear hK KK hH1
        try simp only [Act.put, List.getElem_toArray, List.getElem_cons_zero, List.getElem_cons_succ, List.setIfInBounds_toArray, List.set_cons_zero, List.set_cons_succ]
        refine wpAnyH_take (i := 19) (v := ?_) rfl (by kernel_rfl) (by kernel_rfl) (by kernel_rfl) (fun _ _ _ h => h) (Or.inl ⟨by rfl, ?_⟩) hH2 ?_
        rotate_left
        · intro w hSw; (try dsimp only at hSw); (try simp only [List.getElem_toArray, List.getElem_cons_zero, List.getElem_cons_succ]); go_simp <;> with_reducible rfl
        try simp only [Act.put, List.getElem_toArray, List.getElem_cons_zero, List.getElem_cons_succ, List.setIfInBounds_toArray, List.set_cons_zero, List.set_cons_succ]
        refine wpAnyH_ready (rs := [21]) (by kernel_rfl) (by simp) ?_
        refine AllReadyH.cons rfl (fun KK hK => ?_) AllReadyH.nil
        (dsimp only [List.getElem_toArray, List.getElem_cons_zero, List.getElem_cons_succ])
        rw [if_pos (by rfl)]
        go_simp
        refine hK.out _ _ (HPUT.out _ _ _ (HPUT.out _ _ _ (HPUT.out _ _ _ (HPUT.out _ _ _ (HPUT.out _ _ _ M4.out))))).c6 (fun hH3 => ?_)
        clear hK KK hH2
        try simp only [Act.put, List.getElem_toArray, List.getElem_cons_zero, List.getElem_cons_succ, List.setIfInBounds_toArray, List.set_cons_zero, List.set_cons_succ]
        refine wpAnyH_done (by kernel_rfl) ?_ _
        refine hG _ _ _ ⟨[_, _, _, _, _, _, _, _, _, _, _, _, _, _, _, _, _, _, _, _], rfl, rfl⟩ ?_
        with_reducible exact ⟨_, _, _, rfl, Lib.hid ⟨RQ.newB HZ4.out.1 HO4.out, M4.out.keep (bsetB (bsetB (bsetB (bsetB (bsetB (Below.refl _ _) _ _ _ HW3.out) _ _ _ HW3.out) _ _ _ HW3.out) _ _ _ HW3.out) _ _ _ HW3.out)⟩⟩
  clear HZ HSR p0 p1 p2 p3 p4 i0 i1 i2 i3 i4
  intro aX wX vX hoff hX
  obtain ⟨us, hus, rfl⟩ := hoff
  obtain ⟨g, a4, cap4, rfl, HU⟩ := hX
  match us, hus with
  | [u50, u51, u52, u53, u54, u55, u56, u57, u58, u59, u60, u61, u62, u63, u64, u65, u66, u67, u68, u69], _ =>
    simp only [List.set_cons_succ, List.set_cons_zero, List.take_succ_cons, List.take_zero, List.drop_succ_cons, List.drop_zero, List.cons_append, List.nil_append]
    have HG3 : Hid (w.heap.size + 3 ≤ g) := Lib.hid (Nat.le_trans HW3.out HU.out.1.2.2)
    obtain ⟨V, hV⟩ : ∃ V, V = unL L M := ⟨_, rfl⟩
    obtain ⟨G, hG⟩ : ∃ G, G = ((s || s' || f0 || f1) || unF L M) := ⟨_, rfl⟩
    rw [← hV] at HSML HBIG HGV
    rw [← hG] at HSML HBIG
    have HV := Lib.hid hV
    have HGG := Lib.hid hG
    clear hV hG
    generalize (s || s' || f0 || f1) = q00 at *
    go_wp2
    go_loopw [8, 9, 13, 14] (fun _ _ i _ wr => ∃ (j : Nat) (C : List Ent) (q : Bool) (a : Option Addr) (cap : Nat), j ≤ M.length ∧ C.length ≤ L.length + j ∧ i = .int .i64 (j : Int) ∧ Hid (RQ w3.heap.size g ⟨S, t1, k1, C, q⟩ (.slice a C.length cap) wr ∧ SM w ⟨S, T, K, L, s⟩ (.slice aA L.length cA) ⟨S, T', K', M, s'⟩ (.slice aB M.length cB) wr) ∧ Hid ((AscK C ∧ GdE C) ∧ unL C (M.drop j) = V ∧ (q || unF C (M.drop j)) = G)) (fun _ _ i _ _ => M.length - (intOf i).toNat)
    case atStart => exact ⟨0, L, _, a4, cap4, by omega, by omega, rfl, HU, Lib.hid ⟨⟨HAL.out, HGL.out⟩, by rw [HV.out]; rfl, by rw [HGG.out]; rfl⟩⟩
    case round =>
      clear HU HV HGG
      obtain ⟨j, C, q, a5, cap5, hj, hC, rfl, HI, HZ⟩ := hrel
      obtain ⟨⟨p0, p1, p2, p3, p4⟩, ⟨i0, i1, i2, i3, i4⟩, ⟨o0, o1, o2, o3, o4⟩, y0, y1, y2, y3, y4⟩ := HI.out.2.cells
      obtain ⟨⟨q0, q1, q2, q3, q4⟩, r0, r1, r2, r3, r4⟩ := HI.out.1.1.cells
      by_cases hlt : j < M.length
      · have hlt2 : (j : Int) < (M.length : Int) := by omega
        have hll := HLL.out
        obtain ⟨-, ab, cpb, heb, -, -, hcb⟩ := HR2.out.below HI.out.2.2.2.2
        simp only [Value.slice.injEq, true_and] at heb
        obtain ⟨rfl, rfl⟩ := heb
        obtain ⟨bb, ob, rfl, hbb, hcell⟩ := hcb (by omega)
        obtain ⟨c0, c1, c2⟩ := hcell j hlt
        clear hcb hcell
        have hY := hy2.at_ j
        have HSTEP : Hid ((AscK (unL C [M.getD j Ent.z]) ∧ GdE (unL C [M.getD j Ent.z])) ∧ unL (unL C [M.getD j Ent.z]) (M.drop (j + 1)) = V ∧ ((q || unF C [M.getD j Ent.z]) || unF (unL C [M.getD j Ent.z]) (M.drop (j + 1))) = G) := Lib.hid (by
          obtain ⟨⟨hz1, hz0⟩, hz2, hz3⟩ := HZ.out
          have hd := drop_at hlt
          have ham : AscK (M.getD j Ent.z :: M.drop (j + 1)) := by rw [← hd]; exact List.Pairwise.drop HAM.out
          have hgm : GdE [M.getD j Ent.z] := fun z hz => by
            rw [List.mem_singleton] at hz
            rw [hz, show M.getD j Ent.z = M[j] by simp [List.getD, hlt]]
            exact HGM.out _ (List.getElem_mem hlt)
          rw [hd] at hz2 hz3
          obtain ⟨e1, e2⟩ := unL_step ham hz1
          refine ⟨⟨unL_asc hz1 (AscK.one _), unL_gd hz0 hgm⟩, by rw [← e1]; exact hz2, ?_⟩
          rw [Bool.or_assoc, ← e2]
          exact hz3)
        have HFQ := Lib.hid (fun (w' : World) (h : RdE C (.slice a5 C.length cap5) w') => rfind_any C (M.getD j Ent.z).k a5 C.length cap5 w' h (by omega))
        have HRD := Lib.hid HI.out.1.2.1.rd
        cases hH : hasK C (M.getD j Ent.z).k with
        | true =>
          obtain ⟨x, hx, hfx, hsx⟩ : ∃ x : Nat, x < C.length ∧ findI C (M.getD j Ent.z).k = (x : Int) ∧ sameK (C.getD x Ent.z).k (M.getD j Ent.z).k = true := by
            rcases findI_cases C (M.getD j Ent.z).k with ⟨_, x, h1, h2, h3⟩ | ⟨h, _⟩
            · exact ⟨x, h1, h2, h3⟩
            · rw [hH] at h; cases h
          rw [hfx] at HFQ
          obtain ⟨e1, e2⟩ := unL_has HZ.out.1.1 hx hsx
          have hee : (C.getD x Ent.z).e = 0 := (entQ_zero (HZ.out.1.2 _ (by rw [show C.getD x Ent.z = C[x] by simp [List.getD, hx]]; exact List.getElem_mem hx))).2.2.2
          have e3 : addE (C.getD x Ent.z) (M.getD j Ent.z) = ⟨(C.getD x Ent.z).k, tS (C.getD x Ent.z).c (M.getD j Ent.z).c, (C.getD x Ent.z).e⟩ := by rw [hee]; rfl
          rw [e1, e2, e3] at HSTEP
          obtain ⟨ge, rfl, hge, hgl, -, -, -⟩ := HI.out.1.2.1.block (by show 0 < C.length; omega)
          have hga : ¬ ge = g := fun e => HI.out.1.1.apart HI.out.1.2.1 (by rw [e]; rfl)
          have hga' : ¬ g = ge := fun e => hga e.symm
          obtain ⟨d0, d1, d2⟩ := HI.out.1.2.1.cellsAt hx
          have hfz := HI.out.1.2.1.frozen (x * 3 + 1)
          have hX := HI.out.1.2.1.1.at_ x
          have hta := tS_bd (C.getD x Ent.z).c (M.getD j Ent.z).c
          have HST := Lib.hid (fun (w' : World) (r : Bool) (h : RQ w3.heap.size g ⟨S, t1, k1, C, q⟩ (.slice (some ⟨ge, 0, none⟩) C.length cap5) w') => h.setC hx (c := tS (C.getD x Ent.z).c (M.getD j Ent.z).c) ⟨by omega, by omega⟩ r)
          have HCA := Lib.hid (fun (w' : World) (h : OwnE w3.heap.size C (.slice (some ⟨ge, 0, none⟩) C.length cap5) w') => (⟨h.cellsAt hx, h.frozen (x * 3 + 1)⟩ : At3 (C.getD x Ent.z) ge (x * 3) w' ∧ w'.frozen? ⟨ge, x * 3 + 1, none⟩ = false))
          have HGE : Hid (w.heap.size + 3 ≤ ge) := Lib.hid (Nat.le_trans HW3.out hge)
          have HSS := Lib.hid (fun w => rsumQ_any (C.getD x Ent.z).c (M.getD j Ent.z).c w hX.2.1.1 hX.2.1.2 hY.2.1.1 hY.2.1.2)
          dsimp only at d0 d1 d2
          clear hfx hH hsx hX hta e1 e2 e3 hee hY HSML HBIG
          have hx2 : (x : Int) < (C.length : Int) := by omega
          have hj2 : (j : Int) + 1 ≤ 9223372036854775807 := by omega
          generalize C.getD x Ent.z = X at *
          generalize M.getD j Ent.z = Y at *
          generalize tS X.c Y.c = t2 at *
          generalize tF X.c Y.c = f2 at *
          go_upto_region 15 with (fail)
          go_quiet ((go_at_call 31; (first | exact quiet_left (HFQ.out _ (HRD.out.drewN _)) | exact quiet_left (HFQ.out _ HRD.out))))
          have HJ : Hid (RQ w3.heap.size g ⟨S, t1, k1, C, q⟩ (.slice (some ⟨ge, 0, none⟩) C.length cap5) (wr.drewN nq) ∧ SM w ⟨S, T, K, L, s⟩ (.slice aA L.length cA) ⟨S, T', K', M, s'⟩ (.slice (some ⟨bb, ob, none⟩) M.length cB) (wr.drewN nq)) := Lib.hid ⟨HI.out.1.go (below_drewN (Below.refl _ _) nq), HI.out.2.go (below_drewN (Below.refl _ _) nq)⟩
          have HYC : At3 Y bb (ob + j * 3) (wr.drewN nq) := At3.keep (w := wr) ⟨c0, c1, c2⟩ rfl
          clear HI HRD HFQ p0 p1 p2 p3 p4 i0 i1 i2 i3 i4 o0 o1 o2 o3 o4 y0 y1 y2 y3 y4 q0 q1 q2 q3 q4 r0 r1 r2 r3 r4 c0 c1 c2 d0 d1 d2 hfz
          generalize wr.drewN nq = wr2 at *
          obtain ⟨⟨p0, p1, p2, p3, p4⟩, ⟨i0, i1, i2, i3, i4⟩, ⟨o0, o1, o2, o3, o4⟩, y0, y1, y2, y3, y4⟩ := HJ.out.2.cells
          obtain ⟨⟨q0, q1, q2, q3, q4⟩, r0, r1, r2, r3, r4⟩ := HJ.out.1.1.cells
          obtain ⟨⟨d0, d1, d2⟩, hfz⟩ := HCA.out _ HJ.out.1.2.1
          obtain ⟨c0, c1, c2⟩ := HYC
          go_upto_region 17 with (fail)
          go_quiet ((go_at_call 30; exact quiet_left (HSS.out _)))
          cases q
          · go_wp2
            go_big_region
            generalize hw7 : ((wr2.drewN (nq + 1)).setCell ⟨ge, x * 3 + 1, none⟩ (.int .i64 t2)).setCell ⟨g, 4, none⟩ (.bool f2) = w7
            have HX : Hid (RQ w3.heap.size g ⟨S, t1, k1, C.set x ⟨X.k, t2, X.e⟩, f2⟩ (.slice (some ⟨ge, 0, none⟩) (C.set x ⟨X.k, t2, X.e⟩).length cap5) w7 ∧ SM w ⟨S, T, K, L, s⟩ (.slice aA L.length cA) ⟨S, T', K', M, s'⟩ (.slice (some ⟨bb, ob, none⟩) M.length cB) w7) := Lib.hid (by
              rw [← hw7, List.length_set]
              exact ⟨HST.out _ _ (HJ.out.1.go (below_drewN (Below.refl _ _) (nq + 1))), HJ.out.2.keep (bsetB (bsetB (below_drewN (Below.refl _ _) (nq + 1)) _ _ _ HGE.out) _ _ _ HG3.out)⟩)
            have HLS : Hid ((C.set x ⟨X.k, t2, X.e⟩).length = C.length) := Lib.hid (List.length_set ..)
            have HXP := HX.out
            rw [HLS.out] at HXP
            clear hw7
            go_wp2
            exact ⟨⟨j + 1, _, _, _, _, by omega, by rw [HLS.out]; omega, by go_num, Lib.hid (by rw [HLS.out]; exact HXP), HSTEP⟩, by simp [intOf]; omega⟩
          · go_wp2
            go_big_region
            generalize hw7 : ((wr2.drewN (nq + 1)).setCell ⟨ge, x * 3 + 1, none⟩ (.int .i64 t2)).setCell ⟨g, 4, none⟩ (.bool true) = w7
            have HX : Hid (RQ w3.heap.size g ⟨S, t1, k1, C.set x ⟨X.k, t2, X.e⟩, true⟩ (.slice (some ⟨ge, 0, none⟩) (C.set x ⟨X.k, t2, X.e⟩).length cap5) w7 ∧ SM w ⟨S, T, K, L, s⟩ (.slice aA L.length cA) ⟨S, T', K', M, s'⟩ (.slice (some ⟨bb, ob, none⟩) M.length cB) w7) := Lib.hid (by
              rw [← hw7, List.length_set]
              exact ⟨HST.out _ _ (HJ.out.1.go (below_drewN (Below.refl _ _) (nq + 1))), HJ.out.2.keep (bsetB (bsetB (below_drewN (Below.refl _ _) (nq + 1)) _ _ _ HGE.out) _ _ _ HG3.out)⟩)
            have HLS : Hid ((C.set x ⟨X.k, t2, X.e⟩).length = C.length) := Lib.hid (List.length_set ..)
            have HXP := HX.out
            rw [HLS.out] at HXP
            clear hw7
            go_wp2
            exact ⟨⟨j + 1, _, _, _, _, by omega, by rw [HLS.out]; omega, by go_num, Lib.hid (by rw [HLS.out]; exact HXP), HSTEP⟩, by simp [intOf]; omega⟩
        | false =>
          have hfx : findI C (M.getD j Ent.z).k = -1 := by
            rcases findI_cases C (M.getD j Ent.z).k with ⟨h, _⟩ | ⟨_, h⟩
            · rw [hH] at h; cases h
            · exact h
          rw [hfx] at HFQ
          obtain ⟨e1, e2⟩ := unL_not hH
          rw [e1, e2, Bool.or_false] at HSTEP
          have HBK := Lib.hid (fun (v' : Value) (w' : World) (h : RdE C v' w') => byKey_any (M.getD j Ent.z) C v' w' h hY (by omega))
          have HSE := Lib.hid (fun (N : List Ent) (u v' : Value) (w' : World) (h : RQ w3.heap.size g ⟨S, t1, k1, C, q⟩ v' w') (ho : OwnE w3.heap.size N u w') => h.setE ho)
          have HIL : Hid ((insL (M.getD j Ent.z) C).length = C.length + 1) := Lib.hid (insL_len _ _)
          clear hfx hH e1 e2 hY HSML HBIG
          have hj2 : (j : Int) + 1 ≤ 9223372036854775807 := by omega
          generalize M.getD j Ent.z = Y at *
          go_upto_region 15 with (fail)
          go_quiet ((go_at_call 31; (first | exact quiet_left (HFQ.out _ (HRD.out.drewN _)) | exact quiet_left (HFQ.out _ HRD.out))))
          have HJ : Hid (RQ w3.heap.size g ⟨S, t1, k1, C, q⟩ (.slice a5 C.length cap5) (wr.drewN nq) ∧ SM w ⟨S, T, K, L, s⟩ (.slice aA L.length cA) ⟨S, T', K', M, s'⟩ (.slice (some ⟨bb, ob, none⟩) M.length cB) (wr.drewN nq)) := Lib.hid ⟨HI.out.1.go (below_drewN (Below.refl _ _) nq), HI.out.2.go (below_drewN (Below.refl _ _) nq)⟩
          have HJD := Lib.hid (show RQ w3.heap.size g ⟨S, t1, k1, C, q⟩ (.slice a5 C.length cap5) (wr.drewN (nq + 1)) ∧ SM w ⟨S, T, K, L, s⟩ (.slice aA L.length cA) ⟨S, T', K', M, s'⟩ (.slice (some ⟨bb, ob, none⟩) M.length cB) (wr.drewN (nq + 1)) from ⟨HI.out.1.go (below_drewN (Below.refl _ _) (nq + 1)), HI.out.2.go (below_drewN (Below.refl _ _) (nq + 1))⟩)
          have HRJ := Lib.hid HJD.out.1.2.1.rd
          clear HI HRD
          go_upto_region 19 with (fail)
          go_region_law ((try go_simp); go_at_call 32; (with_reducible refine (HBK.out _ _ HRJ.out).mono ?_); rintro e w6 ⟨u6, rfl, ho6, hb6⟩; obtain ⟨a6, cap6, rfl⟩ := ho6.rd.shape; have HY := Lib.hid (HSE.out _ _ _ _ (HJD.out.1.go hb6) (ho6.mono HJD.out.1.size)); have HM := Lib.hid ((HJD.out.2.go hb6).keep (bsetB (Below.refl _ _) g 3 (.slice a6 (insL Y C).length cap6) HG3.out)); have H6 := Lib.hid (HJD.out.1.go hb6); clear p0 p1 p2 p3 p4 i0 i1 i2 i3 i4 o0 o1 o2 o3 o4 y0 y1 y2 y3 y4 q0 q1 q2 q3 q4 r0 r1 r2 r3 r4 HBK HSE ho6 hb6; obtain ⟨⟨q0, q1, q2, q3, q4⟩, r0, r1, r2, r3, r4⟩ := H6.out.1.cells)
          all_goals
            rw [HIL.out] at HY HM
            go_wp2
            exact ⟨⟨j + 1, _, _, _, _, by omega, by rw [HIL.out]; omega, by go_num, Lib.hid (by rw [HIL.out]; exact ⟨HY.out, HM.out⟩), HSTEP⟩, by simp [intOf]; omega⟩
      · obtain rfl : j = M.length := by omega
        obtain ⟨⟨hac, hgc⟩, hz2, hz3⟩ := HZ.out
        rw [List.drop_length] at hz2 hz3
        rw [unL_nil_right] at hz2
        rw [unF_nil_right, Bool.or_false] at hz3
        subst hz2
        subst hz3
        have hll := HLL.out
        clear HZ hac hgc
        have hnl : ¬ (M.length : Int) < (M.length : Int) := by omega
        by_cases hbig : S < (C.length : Int)
        · have HDE := srpl_desc hbig (by omega)
          have HEQ := Lib.hid (HBIG.out _ rfl)
          have hd0 := srpl_zero_le (S := S) HGV.out
          have hd1 : -9223372036854775808 ≤ srpl C S ∧ srpl C S ≤ 9223372036854775807 := srpl_ok HI.out.1.2.1.1 (by omega)
          have HSO := Lib.hid (fun (v' : Value) (w' : World) (h : RdE C v' w') => rsort_any C v' w' h (by omega))
          have HRLW := Lib.hid (fun (v' : Value) (w' : World) (h : RdE C v' w') => rlowQ_any C (srpl C S) v' w' h (by omega) hd0)
          have HSS := Lib.hid (fun w => rsumQ_any k1 (srpl C S) w (by omega) (by omega) hd1.1 hd1.2)
          have HSE := Lib.hid (fun (N : List Ent) (u v' : Value) (w' : World) (h : RQ w3.heap.size g ⟨S, t1, k1, C, q⟩ v' w') (ho : OwnE w3.heap.size N u w') => h.setE ho)
          have HSL : Hid ((sortE C).length = C.length) := Lib.hid (sortE_len C)
          have hsl : S.toNat < C.length := by omega
          have hs00 : 0 ≤ S := by omega
          have HJ6 : Hid (S.toNat < (sortE C).length) := Lib.hid (by rw [HSL.out]; exact hsl)
          have HP6 : Hid (0 < (sortE C).length) := Lib.hid (by rw [HSL.out]; omega)
          have hsl6 : S < ((sortE C).length : Int) := by rw [HSL.out]; exact hbig
          have HDC := Lib.hid HDE
          clear HSML HBIG HGV HDE hd0 hd1 HAL HAM HGL HGM
          generalize srpl C S = d at *
          generalize lowL C d = D at *
          generalize tS k1 d = k2 at *
          generalize tF k1 d = f2 at *
          have HRD := Lib.hid HI.out.1.2.1.rd
          have HID := Lib.hid (show RQ w3.heap.size g ⟨S, t1, k1, C, q⟩ (.slice a5 C.length cap5) wr.drew ∧ SM w ⟨S, T, K, L, s⟩ (.slice aA L.length cA) ⟨S, T', K', M, s'⟩ (.slice aB M.length cB) wr.drew from ⟨HI.out.1.go (Below.refl _ _).drew, HI.out.2.go (Below.refl _ _).drew⟩)
          have HRDD := Lib.hid HID.out.1.2.1.rd
          clear HI
          go_upto_region 21 with (fail)
          refine wp_meetX 15 131 8 (fun v wx => v = .int .i64 d ∧ Hid (RQ w3.heap.size g ⟨S, t1, k1, C, q⟩ (.slice a5 C.length cap5) wx ∧ SM w ⟨S, T, K, L, s⟩ (.slice aA L.length cA) ⟨S, T', K', M, s'⟩ (.slice aB M.length cB) wx)) ?_ ?_
          · intro G hG
            go_region_law ((try go_simp); go_at_call 40; (with_reducible refine (HSO.out _ _ HRDD.out).mono ?_); rintro e w6 ⟨u6, rfl, ho6, hb6⟩; obtain ⟨a6, cap6, rfl⟩ := ho6.rd.shape; obtain ⟨g6, rfl, -, hg6, -, -, -⟩ := ho6.block HP6.out; obtain ⟨d0, d1, d2⟩ := ho6.cellsAt HJ6.out; rw [← HDC.out] at d1; have H6 : Hid (RQ w3.heap.size g ⟨S, t1, k1, C, q⟩ (.slice a5 C.length cap5) w6 ∧ SM w ⟨S, T, K, L, s⟩ (.slice aA L.length cA) ⟨S, T', K', M, s'⟩ (.slice aB M.length cB) w6) := Lib.hid ⟨HID.out.1.go hb6, HID.out.2.go hb6⟩; clear p0 p1 p2 p3 p4 i0 i1 i2 i3 i4 o0 o1 o2 o3 o4 y0 y1 y2 y3 y4 q0 q1 q2 q3 q4 r0 r1 r2 r3 r4; obtain ⟨⟨q0, q1, q2, q3, q4⟩, r0, r1, r2, r3, r4⟩ := H6.out.1.1.cells; clear ho6 hb6)
            all_goals
              refine hG _ _ _ ⟨[_, _, _, _, _, _, _, _], rfl, rfl⟩ ⟨rfl, ?_⟩
              first | exact H6 | exact Lib.hid ⟨H6.out.1.go (Below.refl _ _).drew, H6.out.2.go (Below.refl _ _).drew⟩
          clear p0 p1 p2 p3 p4 i0 i1 i2 i3 i4 o0 o1 o2 o3 o4 y0 y1 y2 y3 y4 q0 q1 q2 q3 q4 r0 r1 r2 r3 r4 HID HRD HRDD HSO HDC
          intro aZ wZ vZ hoff hX
          obtain ⟨us, hus, rfl⟩ := hoff
          obtain ⟨rfl, HX⟩ := hX
          match us, hus with
          | [v0, v1, v2, v3, v4, v5, v6, v7], _ =>
            simp only [List.set_cons_succ, List.set_cons_zero, List.take_succ_cons, List.take_zero, List.drop_succ_cons, List.drop_zero, List.cons_append, List.nil_append]
            obtain ⟨⟨p0, p1, p2, p3, p4⟩, ⟨i0, i1, i2, i3, i4⟩, ⟨o0, o1, o2, o3, o4⟩, y0, y1, y2, y3, y4⟩ := HX.out.2.cells
            obtain ⟨⟨q0, q1, q2, q3, q4⟩, r0, r1, r2, r3, r4⟩ := HX.out.1.1.cells
            have HRX := Lib.hid HX.out.1.2.1.rd
            go_upto_region 24 with (first
              | (go_at_call 33; refine (HRLW.out _ _ HRX.out).mono ?_; rintro e w7 ⟨u7, rfl, ho7, hb7⟩; obtain ⟨a7, cap7, rfl⟩ := ho7.rd.shape; have HY := Lib.hid (HSE.out _ _ _ _ (HX.out.1.go hb7) (ho7.mono HX.out.1.size)); have HM := Lib.hid ((HX.out.2.go hb7).keep (bsetB (Below.refl _ _) g 3 (.slice a7 D.length cap7) HG3.out)); have H7 := Lib.hid (HX.out.1.go hb7); clear p0 p1 p2 p3 p4 i0 i1 i2 i3 i4 o0 o1 o2 o3 o4 y0 y1 y2 y3 y4 q0 q1 q2 q3 q4 r0 r1 r2 r3 r4 HRLW HRX HSE ho7 hb7; obtain ⟨⟨q0, q1, q2, q3, q4⟩, r0, r1, r2, r3, r4⟩ := H7.out.1.cells; obtain ⟨⟨sq0, sq1, sq2, sq3, sq4⟩, sr0, sr1, sr2, sr3, sr4⟩ := HY.out.1.cells)
              | (go_at_call 30; refine (HSS.out _).mono ?_; rintro e w' ⟨rfl, rfl⟩))
            generalize w7.setCell ⟨g, 3, none⟩ (.slice a7 D.length cap7) = w8 at *
            clear q0 q1 q2 q3 q4 r0 r1 r2 r3 r4 H7
            refine wp_meet 151 8 (fun wx => Hid (RQ w3.heap.size g ⟨S, t1, k2, D, q || f2⟩ (.slice a7 D.length cap7) wx ∧ SM w ⟨S, T, K, L, s⟩ (.slice aA L.length cA) ⟨S, T', K', M, s'⟩ (.slice aB M.length cB) wx)) ?_ ?_
            · intro G hG
              cases q
              all_goals
                go_wp2
                exact hG _ _ ⟨[_, _, _, _, _, _, _, _], rfl, rfl⟩ (Lib.hid ⟨HY.out.setKS _ _, HM.out.keep (bsetB (bsetB (Below.refl _ _) _ _ _ HG3.out) _ _ _ HG3.out)⟩)
            clear sq0 sq1 sq2 sq3 sq4 sr0 sr1 sr2 sr3 sr4 HY HM
            intro aV wV hoff HV
            obtain ⟨us, hus, rfl⟩ := hoff
            match us, hus with
            | [z0, z1, z2, z3, z4, z5, z6, z7], _ =>
              simp only [List.take_succ_cons, List.take_zero, List.drop_succ_cons, List.drop_zero, List.cons_append, List.nil_append]
              obtain ⟨⟨p0, p1, p2, p3, p4⟩, ⟨i0, i1, i2, i3, i4⟩, ⟨o0, o1, o2, o3, o4⟩, y0, y1, y2, y3, y4⟩ := HV.out.2.cells
              obtain ⟨⟨q0, q1, q2, q3, q4⟩, r0, r1, r2, r3, r4⟩ := HV.out.1.1.cells
              generalize (q || f2) = qq at *
              go_wp2
              refine bodyPost_ret (v := .tuple #[.agg #[.int .i64 S, .int .i64 t1, .int .i64 k2, .slice a7 D.length cap7, .bool qq], .int .i64 0]) (by simp [results, Try.results20, go_sem, *]) rfl ⟨_, rfl, ?_, ?_⟩
              · rw [HEQ.out]
                have l4 : w.heap.size + 1 + 1 < w3.heap.size := HLW.out
                refine ⟨a7, D.length, cap7, rfl, OwnE.mono (B := w3.heap.size) ?_ (by omega)⟩
                exact ((((HV.out.1.2.1.keep l4 _ _).keep l4 _ _).keep l4 _ _).keep l4 _ _).keep l4 _ _
              · have l3 : w.heap.size ≤ w.heap.size + 1 + 1 := by omega
                exact bsetB (bsetB (bsetB (bsetB (bsetB HV.out.2.2.2.2 _ _ _ l3) _ _ _ l3) _ _ _ l3) _ _ _ l3) _ _ _ l3
        · have HEQ := Lib.hid (HSML.out (by omega))
          clear HSML HBIG HGV HAL HAM HGL HGM
          go_wp2
          refine bodyPost_ret (v := .tuple #[.agg #[.int .i64 S, .int .i64 t1, .int .i64 k1, .slice a5 C.length cap5, .bool q], .int .i64 0]) (by simp [results, Try.results20, go_sem, *]) rfl ⟨_, rfl, ?_, ?_⟩
          · rw [HEQ.out]
            have l4 : w.heap.size + 1 + 1 < w3.heap.size := HLW.out
            refine ⟨a5, C.length, cap5, rfl, OwnE.mono (B := w3.heap.size) ?_ (by omega)⟩
            exact ((((HI.out.1.2.1.keep l4 _ _).keep l4 _ _).keep l4 _ _).keep l4 _ _).keep l4 _ _
          · have l3 : w.heap.size ≤ w.heap.size + 1 + 1 := by omega
            exact bsetB (bsetB (bsetB (bsetB (bsetB HI.out.2.2.2.2 _ _ _ l3) _ _ _ l3) _ _ _ l3) _ _ _ l3) _ _ _ l3
end Go.Proofs.Ytmmdnomfpfcjiaa
