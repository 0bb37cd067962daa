/- Rows of the call's own, k cells an element: cut, seen longer, copied into, cleared, grown by zeros. No program of its own. -/
import Derived.Test.YtpehbfghajlgmaaGreatWords
import Derived.Test.YtpehbfghajlgmaaGreatBel
import Derived.Laws.CopyOwn
import Derived.Lib.AppendZerosOnto
import Derived.Lib.Overlaps
import Derived.Laws.Externs
import Derived.Deep.RegionLaw
import Derived.Lib.SliceRun
namespace Go.Proofs.YtpehbfghajlgmaaGreat
open Go.RowKit
set_option linter.unusedVariables false
set_option linter.unusedSimpArgs false
section
variable {P : Program} {w : World} {B k n c g : Nat} {e : TypeId} {cs : List Value}
theorem row_block (h : w.ownsRow B e k (.slice (some ⟨g, 0, none⟩) n c) n cs) : ∃ cur : Array Value, w.heap[g]? = some (.cells cur e (0, 0)) ∧ B ≤ g ∧ n ≤ c ∧ c ≤ maxLen ∧ cur.size = c * k ∧ cur.toList.take (n * k) = cs ∧ cs.length = n * k := by
  obtain ⟨hl, h⟩ := h
  rcases h with ⟨h, _⟩ | ⟨g', cap, cur, he, hb, hg, h1, h2, h3, h4⟩
  · cases h
  · simp only [Value.slice.injEq, Option.some.injEq, Addr.mk.injEq, and_true, true_and] at he
    obtain ⟨rfl, rfl⟩ := he
    exact ⟨cur, hg, hb, h1, h2, h3, h4, hl⟩
theorem row_of {cur : Array Value} (hg : w.heap[g]? = some (.cells cur e (0, 0))) (hb : B ≤ g) (h1 : n ≤ c) (h2 : c ≤ maxLen) (h3 : cur.size = c * k) (h4 : cur.toList.take (n * k) = cs) : w.ownsRow B e k (.slice (some ⟨g, 0, none⟩) n c) n cs := by
  refine ⟨?_, .inr ⟨g, c, cur, rfl, hb, hg, h1, h2, h3, h4⟩⟩
  rw [← h4, List.length_take, Array.length_toList, h3]
  have := Nat.mul_le_mul_right k h1
  omega
theorem row_cut (h : w.ownsRow B e k (.slice (some ⟨g, 0, none⟩) n c) n cs) {i : Nat} (hi : i ≤ n) : w.ownsRow B e k (.slice (some ⟨g, 0, none⟩) i c) i (cs.take (i * k)) := by
  obtain ⟨cur, hg, hb, h1, h2, h3, h4, _⟩ := row_block h
  refine row_of hg hb (by omega) h2 h3 ?_
  have := Nat.mul_le_mul_right k hi
  rw [← h4, List.take_take]
  congr 1
  omega
theorem row_longer (h : w.ownsRow B e k (.slice (some ⟨g, 0, none⟩) n c) n cs) {m : Nat} (hm : n + m ≤ c) : ∃ js : List Value, js.length = m * k ∧ w.ownsRow B e k (.slice (some ⟨g, 0, none⟩) (n + m) c) (n + m) (cs ++ js) := by
  obtain ⟨cur, hg, hb, h1, h2, h3, h4, h5⟩ := row_block h
  have hle := Nat.mul_le_mul_right k hm
  rw [Nat.add_mul] at hle
  refine ⟨(cur.toList.drop (n * k)).take (m * k), ?_, row_of hg hb hm h2 h3 ?_⟩
  · rw [List.length_take, List.length_drop, Array.length_toList, h3]
    omega
  · rw [Nat.add_mul, List.take_add, h4]
theorem row_cell (h : w.ownsRow B e k (.slice (some ⟨g, 0, none⟩) n c) n cs) {j : Nat} {v : Value} (hj : cs[j]? = some v) : w.cell? ⟨g, j, none⟩ = some v := by
  have := World.ownsRow.cells h (g := g) rfl j v hj
  rwa [Addr.add_lit, Nat.zero_add] at this
theorem row_frozen (h : w.ownsRow B e k (.slice (some ⟨g, 0, none⟩) n c) n cs) (j : Nat) : w.frozen? ⟨g, j, none⟩ = false := by
  obtain ⟨cur, hg, _⟩ := row_block h
  simp [World.frozen?, hg]
theorem row_bel {w0 w' : World} {D : Nat} (hb : Below D w0 w) (hD : D ≤ w.heap.size) (hg : w.grownBy w' (some g)) (hDg : D ≤ g) : Below D w0 w' :=
  hb.grown hg hD (fun j hj => by cases hj; exact hDg)
theorem row_bel0 {w0 w' : World} {D : Nat} (hb : Below D w0 w) (hD : D ≤ w.heap.size) (hg : w.grownBy w' none) : Below D w0 w' :=
  hb.grown hg hD (fun j hj => by cases hj)
/-- One row behind the turn of another. -/
theorem row_kept {w' : World} {g' : Nat} (h : w.ownsRow B e k (.slice (some ⟨g, 0, none⟩) n c) n cs) (hg : w.grownBy w' (some g')) (hne : g ≠ g') : w'.ownsRow B e k (.slice (some ⟨g, 0, none⟩) n c) n cs :=
  World.ownsRow.kept h hg (.inr (by simp [Value.ownBlock, hne]))
theorem run_copyC (dT sT ty : TypeId) (hu : P.underlying dT = some (.slice e)) (hs : (P.info? e).map (·.size) = some k) (h : w.ownsRow B e k (.slice (some ⟨g, 0, none⟩) n c) n cs)
    (o dl dc : Nat) (a : Addr) (sl sc : Nat) (ms : List Value) (hn : ms.length = min sl dl * k) (hsrc : ∀ j v, ms[j]? = some v → w.cell? (a.add j) = some v) (hfit : o + ms.length ≤ n * k) (h1 : ∀ v ∈ ms, v.oneCell' = true) :
    ∃ w', (Builtin.copy_ #[dT, sT] ty #[.slice (some ⟨g, o, none⟩) dl dc, .slice (some a) sl sc]).run P w = .ok (goInt (min sl dl : Nat)) w' ∧ w'.ownsRow B e k (.slice (some ⟨g, 0, none⟩) n c) n (splice cs o ms) ∧ w.grownBy w' (some g) := by
  obtain ⟨cur, hg, hb, h3, h4, h5, h6, h7⟩ := row_block h
  have hnc := Nat.mul_le_mul_right k h3
  have hl := run_loadCells_list (P := P) w a ms hsrc
  have hst := run_storeCells_at P g o e ms 0 cur w hg (by omega) h1
  rw [Nat.add_zero] at hst
  cases hq : P.info? e with
  | none => simp [hq] at hs
  | some i =>
    have hi : i.size = k := by simpa [hq] using hs
    refine ⟨_, by simp [Builtin.copy_, run_underlying hu, Builtin.lenOf, Builtin.firstCells, sizeOf, typeInfo, hq, hi, ← hn, hl, hst]; rfl, row_of (setRow_heap w g cur _ e _ hg) hb h3 h4 ?_ ?_, ⟨rfl, rfl, rfl, by simp, fun j _ hj => setRow_other w g j _ (fun e => hj (by rw [e]))⟩⟩
    · simp only [List.size_toArray, List.length_append, List.length_take, List.length_drop, Array.length_toList]
      omega
    · rw [← h6]
      unfold splice
      simp only [List.toList_toArray, List.take_append, List.length_append, List.length_take, Array.length_toList, List.take_take]
      rw [h5]
      have e1 : min (n * k) o = o := by omega
      have e2 : min o (c * k) = o := by omega
      rw [e1]
      try rw [e2]
      try rw [List.append_assoc]
      congr 1
      · congr 1; omega
      · congr 1
        · exact List.take_of_length_le (by omega)
        · rw [List.drop_take]
          congr 1
          omega
theorem wp_copyC {ops : Array Oper} {rest : List Oper} {o : Oper} {a : Act} {Q : Exit → Act → World → Prop} (hgd : o.guard = none) (d s : Operand) (dT sT : TypeId)
    (ho : o.op = .call { callee := .builtin .copy, args := #[d, s], argTypes := #[dT, sT] }) (hu : P.underlying dT = some (.slice e)) (hs : (P.info? e).map (·.size) = some k) (h : w.ownsRow B e k (.slice (some ⟨g, 0, none⟩) n c) n cs)
    (off dl dc : Nat) (ad : Addr) (sl sc : Nat) (hd : a.eval d = .slice (some ⟨g, off, none⟩) dl dc) (hx : a.eval s = .slice (some ad) sl sc) (ms : List Value) (hn : ms.length = min sl dl * k) (hsrc : ∀ j v, ms[j]? = some v → w.cell? (ad.add j) = some v) (hfit : off + ms.length ≤ n * k) (h1 : ∀ v ∈ ms, v.oneCell' = true)
    (hK : ∀ w', w'.ownsRow B e k (.slice (some ⟨g, 0, none⟩) n c) n (splice cs off ms) → w.grownBy w' (some g) → wpList P ops Q rest (a.put o.dst (goInt (min sl dl : Nat))) w') : wpList P ops Q (o :: rest) a w := by
  refine wpList_plain hgd fun K hK' => ?_
  obtain ⟨w', hr, h2, h3⟩ := run_copyC (P := P) dT sT o.type hu hs h off dl dc ad sl sc ms hn hsrc hfit h1
  unfold Oper.wp
  simp [execOp, ho, resolve, invoke, builtin, hd, hx, hr, Result.andThen]
  exact hK' _ _ (by simpa using hK w' h2 h3)
theorem step_copyC {ops : Array Oper} {o : Oper} {a : Act} {K : Act → World → Prop} {Q : Exit → Act → World → Prop} {E : Prop} (hgd : o.guard = none) (d s : Operand) (dT sT : TypeId)
    (ho : o.op = .call { callee := .builtin .copy, args := #[d, s], argTypes := #[dT, sT] }) (hu : P.underlying dT = some (.slice e)) (hs : (P.info? e).map (·.size) = some k) (h : w.ownsRow B e k (.slice (some ⟨g, 0, none⟩) n c) n cs)
    (off dl dc : Nat) (ad : Addr) (sl sc : Nat) (hd : a.eval d = .slice (some ⟨g, off, none⟩) dl dc) (hx : a.eval s = .slice (some ad) sl sc) (ms : List Value) (hn : ms.length = min sl dl * k) (hsrc : ∀ j v, ms[j]? = some v → w.cell? (ad.add j) = some v) (hfit : off + ms.length ≤ n * k) (h1 : ∀ v ∈ ms, v.oneCell' = true)
    (hK : ∀ w', w'.ownsRow B e k (.slice (some ⟨g, 0, none⟩) n c) n (splice cs off ms) → w.grownBy w' (some g) → K (a.put o.dst (goInt (min sl dl : Nat))) w') : if Region.wanted o (yielded ops a.tmps) = true then Oper.wp P o a w K Q else E := by
  have hw : Region.wanted o (yielded ops a.tmps) = true := by simp [Region.wanted, hgd]
  rw [if_pos hw]
  obtain ⟨w', hr, h2, h3⟩ := run_copyC (P := P) dT sT o.type hu hs h off dl dc ad sl sc ms hn hsrc hfit h1
  unfold Oper.wp
  simp [execOp, ho, resolve, invoke, builtin, hd, hx, hr, Result.andThen]
  exact hK w' h2 h3
theorem run_clearC (t ty : TypeId) (z : Value) (i : TypeInfo) (ht : P.underlying t = some (.slice e)) (hi : P.info? e = some i) (hz : i.zero = some z) (hzs : z.cells.size = k) (h1 : ∀ v ∈ z.cells, v.oneCell' = true) (hk : 0 < k)
    (h : w.ownsRow B e k (.slice (some ⟨g, 0, none⟩) n c) n cs) (o m mc : Nat) (hm : 0 < m) (ho : n * k ≤ o) (hfit : o + m * k ≤ c * k) :
    ∃ w', (Builtin.clear_ #[t] ty #[.slice (some ⟨g, o, none⟩) m mc]).run P w = .ok (.tuple #[]) w' ∧ w'.ownsRow B e k (.slice (some ⟨g, 0, none⟩) n c) n cs ∧ w.grownBy w' (some g) := by
  obtain ⟨cur, hg, hb, h3, h4, h5, h6, h7⟩ := row_block h
  have hzl : (Builtin.zeroCells z.cells m).toList.length = m * k := by simp [Builtin.zeroCells, hzs]
  have h1' : ∀ v ∈ (Builtin.zeroCells z.cells m).toList, v.oneCell' = true := fun v hv => by
    simp only [Builtin.zeroCells, Array.toList_map, List.mem_map] at hv
    obtain ⟨j, _, rfl⟩ := hv
    refine h1 _ ?_
    have hj : j % z.cells.size < z.cells.size := Nat.mod_lt _ (by omega)
    rw [getElem!_pos z.cells _ hj]
    exact Array.getElem_mem hj
  have hst := run_storeCells_at P g o e (Builtin.zeroCells z.cells m).toList 0 cur w hg (by omega) h1'
  rw [Nat.add_zero] at hst
  have hv : ∀ w, (zeroValue e).run P w = .ok z w := fun w => by simp [zeroValue, typeInfo, hi, hz]
  obtain ⟨m', rfl⟩ : ∃ m', m = m' + 1 := ⟨m - 1, by omega⟩
  refine ⟨_, by simp only [Builtin.clear_, Sem.run_bind]; simp [run_underlying ht, hv, hst]; rfl, row_of (setRow_heap w g cur _ e _ hg) hb h3 h4 ?_ ?_, ⟨rfl, rfl, rfl, by simp, fun j _ hj => setRow_other w g j _ (fun e => hj (by rw [e]))⟩⟩
  · simp only [List.size_toArray, List.length_append, List.length_take, List.length_drop, Array.length_toList] at hzl ⊢
    omega
  · simp only [List.toList_toArray, List.append_assoc]
    rw [List.take_append_of_le_length (by rw [List.length_take, Array.length_toList]; omega), List.take_take, ← h6]
    congr 1
    omega
theorem wp_clearC {ops : Array Oper} {rest : List Oper} {o : Oper} {a : Act} {Q : Exit → Act → World → Prop} (hgd : o.guard = none) (d : Operand) (t : TypeId)
    (ho : o.op = .call { callee := .builtin .clear, args := #[d], argTypes := #[t] }) (z : Value) (i : TypeInfo) (ht : P.underlying t = some (.slice e)) (hi : P.info? e = some i) (hz : i.zero = some z) (hzs : z.cells.size = k) (h1 : ∀ v ∈ z.cells, v.oneCell' = true) (hk : 0 < k)
    (h : w.ownsRow B e k (.slice (some ⟨g, 0, none⟩) n c) n cs) (off m mc : Nat) (hd : a.eval d = .slice (some ⟨g, off, none⟩) m mc) (hm : 0 < m) (hoff : n * k ≤ off) (hfit : off + m * k ≤ c * k)
    (hK : ∀ w', w'.ownsRow B e k (.slice (some ⟨g, 0, none⟩) n c) n cs → w.grownBy w' (some g) → wpList P ops Q rest (a.put o.dst (.tuple #[])) w') : wpList P ops Q (o :: rest) a w := by
  refine wpList_plain hgd fun K hK' => ?_
  obtain ⟨w', hr, h2, h3⟩ := run_clearC (P := P) t o.type z i ht hi hz hzs h1 hk h off m mc hm hoff hfit
  unfold Oper.wp
  simp [execOp, ho, resolve, invoke, builtin, hd, hr, Result.andThen]
  exact hK' _ _ (hK w' h2 h3)
/-- append(s, make([]T, m)...) where there is no room: a new row. -/
theorem run_zerosC (t tn ty : TypeId) (i : TypeInfo) (z : Value) (kq kn : IntKind) (ht : P.underlying t = some (.slice e)) (htn : P.underlying tn = some (.int kn)) (hi : P.info? e = some i) (hz : i.zero = some z) (hsz : i.size = k) (hzs : z.cells.size = k) (hk : 0 < k)
    (h : w.ownsRow B e k (.slice (some ⟨g, 0, none⟩) n c) n cs) (m : Nat) (hm : 0 < m) (hg : c < n + m) (hbig : (n + m) * i.bytes ≤ 140737488355328) (hnm : n + m ≤ 1099511627776) :
    ∃ w' G zs, (Builtin.append_ #[t, tn] ty #[.slice (some ⟨g, 0, none⟩) n c, .int kq m]).run P w = .ok (.slice (some ⟨w.heap.size, 0, none⟩) (n + m) G) w' ∧ zs.length = m * k ∧ w'.ownsRow w.heap.size e k (.slice (some ⟨w.heap.size, 0, none⟩) (n + m) G) (n + m) (cs ++ zs) ∧ w.grownBy w' none := by
  obtain ⟨cur, hgg, hb, h3, h4, h5, h6, h7⟩ := row_block h
  have hr := Lib.run_append_grow_zeros (P := P) w t tn ty e i z kq kn ht htn hi hz (some ⟨g, 0, none⟩) n c cs
    (run_firstCells_some w.drew i.size n ⟨g, 0, none⟩ n c cs (by rw [hsz]; exact h7) (fun j v hj => by rw [Addr.add_lit, Nat.zero_add]; exact row_cell h hj)) m hm (by omega) hg (by omega)
    (by rw [Nat.add_mul] at hbig; omega) (growslice_fits hg hbig)
  have hge := grownCap_ge w (n + m) c e
  have hle := grownCap_le_maxLen w (n + m) c e (by unfold maxLen; omega)
  refine ⟨_, _, (Builtin.zeroCells z.cells m).toList, hr, by simp [Builtin.zeroCells, hzs], row_of (heap_alloc_new w.drew _) (Nat.le_refl _) hge hle ?_ ?_, ⟨rfl, rfl, rfl, by simp, fun j hj _ => Below.heap_alloc w.drew _ j hj⟩⟩
  · simp only [Array.size_append, List.size_toArray, size_zeroCells, hzs, h7, ← Nat.add_mul]
    congr 1
    omega
  · simp only [Array.toList_append, List.toList_toArray]
    have hl : (cs ++ (Builtin.zeroCells z.cells m).toList).length = (n + m) * k := by rw [List.length_append, h7, Array.length_toList, size_zeroCells, hzs, Nat.add_mul]
    rw [← hl]
    exact List.take_left
theorem wp_zerosC {ops : Array Oper} {rest : List Oper} {o : Oper} {a : Act} {Q : Exit → Act → World → Prop} (hgd : o.guard = none) (s x : Operand) (t tn : TypeId)
    (ho : o.op = .call { callee := .builtin .append, args := #[s, x], argTypes := #[t, tn] }) (i : TypeInfo) (z : Value) (kq kn : IntKind) (ht : P.underlying t = some (.slice e)) (htn : P.underlying tn = some (.int kn)) (hi : P.info? e = some i) (hz : i.zero = some z) (hsz : i.size = k) (hzs : z.cells.size = k) (hk : 0 < k)
    (h : w.ownsRow B e k (.slice (some ⟨g, 0, none⟩) n c) n cs) (m : Nat) (hs : a.eval s = .slice (some ⟨g, 0, none⟩) n c) (hx : a.eval x = .int kq m) (hm : 0 < m) (hg : c < n + m) (hbig : (n + m) * i.bytes ≤ 140737488355328) (hnm : n + m ≤ 1099511627776)
    (hK : ∀ w' G zs, zs.length = m * k → w'.ownsRow w.heap.size e k (.slice (some ⟨w.heap.size, 0, none⟩) (n + m) G) (n + m) (cs ++ zs) → w.grownBy w' none → wpList P ops Q rest (a.put o.dst (.slice (some ⟨w.heap.size, 0, none⟩) (n + m) G)) w') : wpList P ops Q (o :: rest) a w := by
  refine wpList_plain hgd fun K hK' => ?_
  obtain ⟨w', G, zs, hr, h1, h2, h3⟩ := run_zerosC (P := P) t tn o.type i z kq kn ht htn hi hz hsz hzs hk h m hm hg hbig hnm
  unfold Oper.wp
  simp [execOp, ho, resolve, invoke, builtin, hs, hx, hr, Result.andThen]
  exact hK' _ _ (hK w' G zs h1 h2 h3)
/-- append in place: the row has room. -/
theorem run_roomC (t ty : TypeId) (i : TypeInfo) (ht : P.underlying t = some (.slice e)) (hi : P.info? e = some i) (hsz : i.size = k) (h : w.ownsRow B e k (.slice (some ⟨g, 0, none⟩) n c) n cs)
    (ad : Addr) (m mc : Nat) (ms : List Value) (hl : ms.length = m * k) (hsrc : ∀ j v, ms[j]? = some v → w.cell? (ad.add j) = some v) (h1 : ∀ v ∈ ms, v.oneCell' = true) (hroom : n + m ≤ c) :
    ∃ w', (Builtin.append_ #[t, t] ty #[.slice (some ⟨g, 0, none⟩) n c, .slice (some ad) m mc]).run P w = .ok (.slice (some ⟨g, 0, none⟩) (n + m) c) w' ∧ w'.ownsRow B e k (.slice (some ⟨g, 0, none⟩) (n + m) c) (n + m) (cs ++ ms) ∧ w.grownBy w' (some g) := by
  subst hsz
  obtain ⟨cur, hg, hb, h3, h4, h5, h6, h7⟩ := row_block h
  have hle := Nat.mul_le_mul_right i.size hroom
  rw [Nat.add_mul] at hle
  have hr := run_append_room (P := P) w t ty e i ht hi g n c cur hg ad m mc ms hl hsrc h1 hroom (by omega)
  refine ⟨_, hr, row_of (setRow_heap w g cur _ e _ hg) hb hroom h4 ?_ ?_, ⟨rfl, rfl, rfl, by simp, fun j _ hj => setRow_other w g j _ (fun e => hj (by rw [e]))⟩⟩
  · simp only [List.size_toArray, List.length_append, List.length_take, List.length_drop, Array.length_toList]
    omega
  · rw [h6]
    have hlen : (cs ++ ms).length = (n + m) * i.size := by rw [List.length_append, h7, hl, Nat.add_mul]
    simp only [List.toList_toArray]
    rw [← hlen]
    exact List.take_left
theorem step_roomC {ops : Array Oper} {o : Oper} {a : Act} {K : Act → World → Prop} {Q : Exit → Act → World → Prop} {E : Prop} (hgd : o.guard = none) (s x : Operand) (t : TypeId)
    (ho : o.op = .call { callee := .builtin .append, args := #[s, x], argTypes := #[t, t] }) (i : TypeInfo) (ht : P.underlying t = some (.slice e)) (hi : P.info? e = some i) (hsz : i.size = k) (h : w.ownsRow B e k (.slice (some ⟨g, 0, none⟩) n c) n cs)
    (ad : Addr) (m mc : Nat) (hs : a.eval s = .slice (some ⟨g, 0, none⟩) n c) (hx : a.eval x = .slice (some ad) m mc) (ms : List Value) (hl : ms.length = m * k) (hsrc : ∀ j v, ms[j]? = some v → w.cell? (ad.add j) = some v) (h1 : ∀ v ∈ ms, v.oneCell' = true) (hroom : n + m ≤ c)
    (hK : ∀ w', w'.ownsRow B e k (.slice (some ⟨g, 0, none⟩) (n + m) c) (n + m) (cs ++ ms) → w.grownBy w' (some g) → K (a.put o.dst (.slice (some ⟨g, 0, none⟩) (n + m) c)) w') : if Region.wanted o (yielded ops a.tmps) = true then Oper.wp P o a w K Q else E := by
  have hw : Region.wanted o (yielded ops a.tmps) = true := by simp [Region.wanted, hgd]
  rw [if_pos hw]
  obtain ⟨w', hr, h2, h3⟩ := run_roomC (P := P) t o.type i ht hi hsz h ad m mc ms hl hsrc h1 hroom
  unfold Oper.wp
  simp [execOp, ho, resolve, invoke, builtin, hs, hx, hr, Result.andThen]
  exact hK w' h2 h3
/-- Two rows in two blocks do not overlap. -/
theorem run_overlapsC (tS tR : TypeId) (ht : P.underlying tS = some (.slice e)) (hz : ∀ w, (Go.sizeOf e).run P w = .ok k w) {B' n' c' g' : Nat} {cs' : List Value} (hk : 0 < k)
    (ha : w.ownsRow B' e k (.slice (some ⟨g', 0, none⟩) n' c') n' cs') (hb : w.ownsRow B e k (.slice (some ⟨g, 0, none⟩) n c) n cs) (hne : g' ≠ g) (hc : 0 < c) (o lb cb : Nat) :
    (Extern.SlicesOverlaps.overlaps #[tS, tS] #[tR] #[.slice (some ⟨g', 0, none⟩) n' c', .slice (some ⟨g, o, none⟩) lb cb]).run P w = .ok (.bool false) w := by
  obtain ⟨cur', hg', _, _, _, h5', _, _⟩ := row_block ha
  obtain ⟨cur, hg, _, _, _, h5, _, _⟩ := row_block hb
  refine Lib.run_overlaps_apart w tS tR e ht k hz ⟨g', 0, none⟩ ⟨g, o, none⟩ n' c' lb cb hne e e cur'.size cur.size ?_ ?_ ?_ (row_frozen ha 0) (row_frozen ha _)
  · simp [World.shape?, hg']
  · simp [World.shape?, hg]
  · rw [h5]
    exact Nat.mul_ne_zero (by omega) (by omega)
end
end Go.Proofs.YtpehbfghajlgmaaGreat
