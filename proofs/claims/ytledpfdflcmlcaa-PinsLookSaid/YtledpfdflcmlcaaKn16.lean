/- The contract of sketchstorelaw16.known. -/
import Derived.Test.YtledpfdflcmlcaaPnP
import Derived.Deep.CutRange
namespace Go.Proofs.Ytledpfdflcmlcaa
open Go.RowKit
set_option linter.unusedVariables false
set_option linter.unusedSimpArgs false
set_option maxRecDepth 100000 in
set_option maxHeartbeats 2000000 in
theorem known16_any (w : World) : Calls Try.prog 15 #[] w fun e w' => e = .returned (.bool true) ∧ Below w.heap.size w w' := by
  have hadd := paddp_any [] (.slice none 0 0) 3 w (OwnPn.empty 0 w).rd (by decide) (by decide)
  rw [show addE [] 3 = 0 from rfl, show addV [] 3 = [⟨3, 1⟩] from rfl] at hadd
  go_enter Try.func15, Try.ntmps15
  go_upto_region 2 with (go_at_call 8; refine hadd.mono ?_; rintro e w1 ⟨u, rfl, ho, hb⟩; obtain ⟨ua, uc, rfl⟩ := ho.rd.shape; have HR := Lib.hid ho.rd; have HB := Lib.hid hb; clear ho hb hadd)
  obtain ⟨b, off, rfl, hbl, c0, c1⟩ := HR.out.at_ (j := 0) (by decide)
  have c0 : w1.cell? ⟨b, off, none⟩ = some (Value.int .i64 3) := by simpa using c0
  have c1 : w1.cell? ⟨b, off + 1, none⟩ = some (Value.int .i64 1) := by simpa using c1
  have HC := Lib.hid (fun f t w' (hb' : Below w1.heap.size w1 w') => pcovp_any [⟨3, 1⟩] _ f t w' (HR.out.below hb') (by decide))
  have H1 := Lib.hid (Below.refl w1.heap.size w1)
  go_wp2_with (first
    | (go_at_call 18; refine (HC.out 3 4 _ H1.out).mono ?_; rintro e w2 ⟨rfl, hb⟩; have H2 := Lib.hid (bgo H1.out hb); clear hb H1)
    | (go_at_call 18; refine (HC.out 1 0 _ H2.out).mono ?_; rintro e w3 ⟨rfl, hb⟩; have H3 := Lib.hid (bgo H2.out hb); clear hb H2)
    | (go_at_call 18; refine (HC.out 2 9 _ H3.out).mono ?_; rintro e w4 ⟨rfl, hb⟩; have H4 := Lib.hid (bgo H3.out hb); clear hb H3)
    | (go_at_call 18; refine (HC.out 1 3 _ H4.out).mono ?_; rintro e w5 ⟨rfl, hb⟩; have H5 := Lib.hid (bgo H4.out hb); clear hb H4))
  go_ret
  exact ⟨rfl, bgo HB.out H5.out⟩
end Go.Proofs.Ytledpfdflcmlcaa
