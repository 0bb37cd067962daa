/- The law's made: up to ten calls of the reference; what each of them keeps, it has at the end. -/
import Derived.Test.YtpehbfghajlgmaaGreatBgX
import Derived.Test.YtpehbfghajlgmaaGreatBgW
import Derived.Test.YtpehbfghajlgmaaGreatIntRow
namespace Go.Proofs.YtpehbfghajlgmaaGreat
open Go.RowKit
set_option linter.unusedVariables false
set_option linter.unusedSimpArgs false
theorem PutB.len {L R : List Bg} {x : Bg} (h : PutB L x R) : R.length ≤ L.length + 1 := by
  obtain ⟨q, hq, rfl⟩ := h
  have := hq.1
  simp
  omega
theorem EndB.len {L R : List Bg} {nm : ByteArray} {c : Int} (h : EndB L nm c R) : R.length ≤ L.length + 1 := by
  obtain ⟨q, hq, rfl⟩ := h
  simp
theorem MovB.len {L R : List Bg} {nm tn : ByteArray} {c : Int} (h : MovB L nm tn c R) : R.length ≤ L.length + 1 := by
  obtain ⟨q, hq, hr⟩ := h
  have := hr.len
  simpa using this
/-- What each call keeps: I of the directory, the next commit and the next object. -/
structure Keeps (I : List Bg → Int → Int → Prop) : Prop where
  nil : I [] 1 1
  bind : ∀ {L R : List Bg} {c o : Int} {nm : ByteArray}, ThreeN nm → I L c o → bndE L nm o c = 0 → PutB L ⟨nm, o, c, 0⟩ R → I R (c + 1) (o + 1)
  more : ∀ {L : List Bg} {c o : Int}, I L c o → I L c (o + 1)
  unbind : ∀ {L R : List Bg} {c o : Int} {nm : ByteArray}, ThreeN nm → I L c o → unbE L nm c = 0 → EndB L nm c R → I R (c + 1) o
  rename : ∀ {L R : List Bg} {c o : Int} {nm tn : ByteArray}, ThreeN nm → ThreeN tn → I L c o → renE L nm tn c = 0 → MovB L nm tn c R → I R (c + 1) o
/-- The loop's state. -/
def MkB (I : List Bg → Int → Int → Prop) (q : Nat) (c o : Int) (w wr : World) (d : Value) : Prop := ∃ M, M.length ≤ q ∧ OwnBg w.heap.size M d wr ∧ I M c o ∧ Below w.heap.size w wr
set_option maxRecDepth 100000 in
set_option maxHeartbeats 4000000 in
theorem made18_any (I : List Bg → Int → Int → Prop) (hI : Keeps I) (Z : List Int) (v : Value) (w : World) (hv : RdI Z v w) :
    Calls Tryz.prog 5 #[v] w fun e w' => ∃ M u c, M.length ≤ 10 ∧ e = .returned (.tuple #[u, .int .i64 c]) ∧ (1 ≤ c ∧ c ≤ 11) ∧ OwnBg w.heap.size M u w' ∧ (∃ o, I M c o) ∧ Below w.heap.size w w' := by
  obtain ⟨a, cap, rfl⟩ := hv.shape
  have HV := Lib.hid hv
  have HK := Lib.hid hI
  have hZ : Z.length ≤ 9223372036854775807 := by
    obtain ⟨_, _, _, _, h1, h2, _⟩ := hv
    unfold maxLen at h2
    omega
  clear hv hI
  go_enter Tryz.func5, Tryz.ntmps5
  go_wp2
  go_loopw [4, 5, 6, 7, 8, 9, 10] (fun d cc oo i _ _ _ wr => ∃ (q : Nat) (c o : Int), q ≤ Z.length ∧ q ≤ 10 ∧ i = .int .i64 (q : Int) ∧ cc = .int .i64 c ∧ oo = .int .i64 o ∧ 1 ≤ c ∧ c ≤ q + 1 ∧ 1 ≤ o ∧ o ≤ q + 1 ∧ Hid (MkB I q c o w wr d)) (fun _ _ _ i _ _ _ _ => 10 - (intOf i).toNat)
  case atStart => exact ⟨0, 1, 1, by omega, by omega, rfl, rfl, rfl, by decide, by decide, by decide, by decide, Lib.hid ⟨[], Nat.le_refl _, OwnBg.empty _ _, HK.out.nil, Below.refl _ _⟩⟩
  case round =>
    obtain ⟨q, c, o, hq, hq10, rfl, rfl, rfl, k1, k2, k3, k4, HS⟩ := hrel
    obtain ⟨M, hM, ho, hi, hb⟩ := HS.out
    have HML := Lib.hid hM
    obtain ⟨a5, c5, rfl⟩ := ho.rd.shape
    have HO := Lib.hid ho
    have HB := Lib.hid hb
    have HII := Lib.hid hi
    clear HS hM ho hi hb
    by_cases hlt : q < Z.length
    · by_cases hlt10 : q < 10
      · obtain ⟨_, a6, cap6, he6, _, _, hc6⟩ := HV.out.below HB.out
        simp only [Value.slice.injEq, true_and] at he6
        obtain ⟨rfl, rfl⟩ := he6
        obtain ⟨b6, off6, rfl, hb6, hcell6⟩ := hc6 (by omega)
        have hcc6 := hcell6 q hlt
        have hz := HV.out.at_ q
        clear hcell6 hc6
        generalize Z.getD q 0 = z at *
        have m1 := bmask2 z
        have m2 := bmask4 (z / 4)
        have m3 := bmask4 (z / 64)
        have hqz : (q : Int) < (Z.length : Int) := by omega
        obtain ⟨t, ht⟩ : ∃ t, z % 4 = t := ⟨_, rfl⟩
        have ht4 : t = 0 ∨ t = 1 ∨ t = 2 ∨ t = 3 := by omega
        rw [ht] at m1
        clear ht
        generalize z / 4 % 16 = x1 at *
        generalize z / 64 % 16 = x2 at *
        have HBI := Lib.hid (fun s (hs : ThreeN s) (t1 : World) (hb : Below wr.heap.size wr t1) => rbind_any M _ s o c t1 (HO.out.below hb).rd (by have := HML.out; omega) hs.ok (by omega) (by omega))
        have HUN := Lib.hid (fun s (hs : ThreeN s) (t1 : World) (hb : Below wr.heap.size wr t1) => runb_any M _ s c t1 (HO.out.below hb).rd (by have := HML.out; omega) hs.ok (by omega))
        have HRN := Lib.hid (fun s s' (hs : ThreeN s) (hs' : ThreeN s') (t1 : World) (hb : Below wr.heap.size wr t1) => rren_any M _ s s' c t1 (HO.out.below hb).rd (by have := HML.out; omega) hs.ok hs'.ok (by omega))
        rcases ht4 with rfl | rfl | rfl | rfl
        · go_upto_region 17 with (first
            | (go_at_call 8; refine (bname_any x1 wr).mono ?_; rintro e t1 ⟨s1, rfl, hs1, hb1⟩; have T1 := Lib.hid hb1; have HS1 := Lib.hid hs1; clear hb1 hs1)
            | (go_at_call 12; refine (HBI.out s1 HS1.out _ T1.out).mono ?_; rintro e t3 ⟨v3, R, rfl, ho3, hc3, hn3, hb3⟩; have T3 := Lib.hid (bgo T1.out hb3); have HO3 := Lib.hid (ho3.mono (Nat.le_trans HB.out.size T1.out.size)); have HC3 := Lib.hid hc3; have HN3 := Lib.hid hn3; clear ho3 hc3 hn3 hb3))
          obtain ⟨E, hE⟩ : ∃ E, bndE M s1 o c = E := ⟨_, rfl⟩
          rw [hE] at HC3 HN3 ⊢
          obtain ⟨a3, c3, rfl⟩ := HO3.out.rd.shape
          have HEE := Lib.hid hE
          clear hE
          by_cases hE0 : E = 0
          · have HR := Lib.hid (HC3.out hE0)
            have HI2 := Lib.hid (HK.out.bind HS1.out HII.out (HEE.out.trans hE0) HR.out)
            have HLE : Hid (R.length ≤ M.length + 1) := Lib.hid HR.out.len
            subst hE0
            clear HC3 HN3
            go_wp2
            go_roundw
            case rel => exact ⟨q + 1, c + 1, o + 1, by omega, by omega, by go_num, rfl, rfl, by omega, by omega, by omega, by omega, Lib.hid ⟨R, by have := HLE.out; have := HML.out; omega, HO3.out, HI2.out, bgo HB.out T3.out⟩⟩
            case measure => simp [intOf]; omega
          · have HI2 := Lib.hid (HK.out.more HII.out)
            have hE1 : (E == 0) = false := by simpa using hE0
            clear HC3 HN3
            go_wp2
            go_roundw
            case rel => exact ⟨q + 1, c, o + 1, by omega, by omega, by go_num, rfl, rfl, by omega, by omega, by omega, by omega, Lib.hid ⟨M, by have := HML.out; omega, HO.out.below T3.out, HI2.out, bgo HB.out T3.out⟩⟩
            case measure => simp [intOf]; omega
        · go_upto_region 17 with (first
            | (go_at_call 8; refine (bname_any x1 wr).mono ?_; rintro e t1 ⟨s1, rfl, hs1, hb1⟩; have T1 := Lib.hid hb1; have HS1 := Lib.hid hs1; clear hb1 hs1)
            | (go_at_call 12; refine (HBI.out s1 HS1.out _ T1.out).mono ?_; rintro e t3 ⟨v3, R, rfl, ho3, hc3, hn3, hb3⟩; have T3 := Lib.hid (bgo T1.out hb3); have HO3 := Lib.hid (ho3.mono (Nat.le_trans HB.out.size T1.out.size)); have HC3 := Lib.hid hc3; have HN3 := Lib.hid hn3; clear ho3 hc3 hn3 hb3))
          obtain ⟨E, hE⟩ : ∃ E, bndE M s1 o c = E := ⟨_, rfl⟩
          rw [hE] at HC3 HN3 ⊢
          obtain ⟨a3, c3, rfl⟩ := HO3.out.rd.shape
          have HEE := Lib.hid hE
          clear hE
          by_cases hE0 : E = 0
          · have HR := Lib.hid (HC3.out hE0)
            have HI2 := Lib.hid (HK.out.bind HS1.out HII.out (HEE.out.trans hE0) HR.out)
            have HLE : Hid (R.length ≤ M.length + 1) := Lib.hid HR.out.len
            subst hE0
            clear HC3 HN3
            go_wp2
            go_roundw
            case rel => exact ⟨q + 1, c + 1, o + 1, by omega, by omega, by go_num, rfl, rfl, by omega, by omega, by omega, by omega, Lib.hid ⟨R, by have := HLE.out; have := HML.out; omega, HO3.out, HI2.out, bgo HB.out T3.out⟩⟩
            case measure => simp [intOf]; omega
          · have HI2 := Lib.hid (HK.out.more HII.out)
            have hE1 : (E == 0) = false := by simpa using hE0
            clear HC3 HN3
            go_wp2
            go_roundw
            case rel => exact ⟨q + 1, c, o + 1, by omega, by omega, by go_num, rfl, rfl, by omega, by omega, by omega, by omega, Lib.hid ⟨M, by have := HML.out; omega, HO.out.below T3.out, HI2.out, bgo HB.out T3.out⟩⟩
            case measure => simp [intOf]; omega
        · go_upto_region 17 with (first
            | (go_at_call 8; refine (bname_any x1 wr).mono ?_; rintro e t1 ⟨s1, rfl, hs1, hb1⟩; have T1 := Lib.hid hb1; have HS1 := Lib.hid hs1; clear hb1 hs1)
            | (go_at_call 13; refine (HUN.out s1 HS1.out _ T1.out).mono ?_; rintro e t3 ⟨v3, R, rfl, ho3, hc3, hn3, hb3⟩; have T3 := Lib.hid (bgo T1.out hb3); have HO3 := Lib.hid (ho3.mono (Nat.le_trans HB.out.size T1.out.size)); have HC3 := Lib.hid hc3; have HN3 := Lib.hid hn3; clear ho3 hc3 hn3 hb3))
          obtain ⟨E, hE⟩ : ∃ E, unbE M s1 c = E := ⟨_, rfl⟩
          rw [hE] at HC3 HN3 ⊢
          obtain ⟨a3, c3, rfl⟩ := HO3.out.rd.shape
          have HEE := Lib.hid hE
          clear hE
          by_cases hE0 : E = 0
          · have HR := Lib.hid (HC3.out hE0)
            have HI2 := Lib.hid (HK.out.unbind HS1.out HII.out (HEE.out.trans hE0) HR.out)
            have HLE : Hid (R.length ≤ M.length + 1) := Lib.hid HR.out.len
            subst hE0
            clear HC3 HN3
            go_wp2
            go_roundw
            case rel => exact ⟨q + 1, c + 1, o, by omega, by omega, by go_num, rfl, rfl, by omega, by omega, by omega, by omega, Lib.hid ⟨R, by have := HLE.out; have := HML.out; omega, HO3.out, HI2.out, bgo HB.out T3.out⟩⟩
            case measure => simp [intOf]; omega
          · have HI2 := Lib.hid (HII.out)
            have hE1 : (E == 0) = false := by simpa using hE0
            clear HC3 HN3
            go_wp2
            go_roundw
            case rel => exact ⟨q + 1, c, o, by omega, by omega, by go_num, rfl, rfl, by omega, by omega, by omega, by omega, Lib.hid ⟨M, by have := HML.out; omega, HO.out.below T3.out, HI2.out, bgo HB.out T3.out⟩⟩
            case measure => simp [intOf]; omega
        · go_upto_region 17 with (first
            | (go_at_call 8; refine (bname_any x1 wr).mono ?_; rintro e t1 ⟨s1, rfl, hs1, hb1⟩; have T1 := Lib.hid hb1; have HS1 := Lib.hid hs1; clear hb1 hs1)
            | (go_at_call 8; refine (bname_any x2 t1).mono ?_; rintro e t2 ⟨s2, rfl, hs2, hb2⟩; have T2 := Lib.hid (bgo T1.out hb2); have HS2 := Lib.hid hs2; clear hb2 hs2)
            | (go_at_call 14; refine (HRN.out s1 s2 HS1.out HS2.out _ T2.out).mono ?_; rintro e t3 ⟨v3, R, rfl, ho3, hc3, hn3, hb3⟩; have T3 := Lib.hid (bgo T2.out hb3); have HO3 := Lib.hid (ho3.mono (Nat.le_trans HB.out.size T2.out.size)); have HC3 := Lib.hid hc3; have HN3 := Lib.hid hn3; clear ho3 hc3 hn3 hb3))
          obtain ⟨E, hE⟩ : ∃ E, renE M s1 s2 c = E := ⟨_, rfl⟩
          rw [hE] at HC3 HN3 ⊢
          obtain ⟨a3, c3, rfl⟩ := HO3.out.rd.shape
          have HEE := Lib.hid hE
          clear hE
          by_cases hE0 : E = 0
          · have HR := Lib.hid (HC3.out hE0)
            have HI2 := Lib.hid (HK.out.rename HS1.out HS2.out HII.out (HEE.out.trans hE0) HR.out)
            have HLE : Hid (R.length ≤ M.length + 1) := Lib.hid HR.out.len
            subst hE0
            clear HC3 HN3
            go_wp2
            go_roundw
            case rel => exact ⟨q + 1, c + 1, o, by omega, by omega, by go_num, rfl, rfl, by omega, by omega, by omega, by omega, Lib.hid ⟨R, by have := HLE.out; have := HML.out; omega, HO3.out, HI2.out, bgo HB.out T3.out⟩⟩
            case measure => simp [intOf]; omega
          · have HI2 := Lib.hid (HII.out)
            have hE1 : (E == 0) = false := by simpa using hE0
            clear HC3 HN3
            go_wp2
            go_roundw
            case rel => exact ⟨q + 1, c, o, by omega, by omega, by go_num, rfl, rfl, by omega, by omega, by omega, by omega, Lib.hid ⟨M, by have := HML.out; omega, HO.out.below T3.out, HI2.out, bgo HB.out T3.out⟩⟩
            case measure => simp [intOf]; omega
      · have hne : ¬ (q : Int) < 10 := by omega
        go_wp2
        go_ret2
        exact ⟨M, by (have := HML.out; omega), _, c, rfl, ⟨k1, by omega⟩, HO.out, ⟨o, HII.out⟩, HB.out⟩
    · have hne : ¬ (q : Int) < (Z.length : Int) := by omega
      go_wp2
      go_ret2
      exact ⟨M, by (have := HML.out; omega), _, c, rfl, ⟨k1, by omega⟩, HO.out, ⟨o, HII.out⟩, HB.out⟩
end Go.Proofs.YtpehbfghajlgmaaGreat
