/- Many commands: a row that is made, and written command by command. -/
import Derived.Test.YtnfobnnbeefeeaaGreatDoorGX
import Derived.Test.YtnfobnnbeefeeaaGreatDoorGU
import Derived.Laws.MakeOwn
namespace Go.Proofs.YtnfobnnbeefeeaaGreatDoor.Wi
open Go Go.RowKit
set_option linter.unusedVariables false
set_option linter.unusedSimpArgs false
def cT (i : Nat) : Cm := ⟨2, 0, (i : Int), 0, [], zV⟩
def cFa : Cm := ⟨5, 0, 0, 0, [120], zV⟩
def litF : Array Value := #[.int .i64 5, .int .i64 0, .int .i64 0, .int .i64 0, .string ⟨#[120]⟩, .int .i64 0, .int .i64 0, .string ⟨#[]⟩, .slice none 0 0]
theorem cFa_lit : cFa.cells.toArray = litF := rfl
theorem cFa_litL : cFa.cells = litF.toList := rfl
theorem litF_one : litF.all (·.oneCell') = true := by rw [← cFa_lit]; exact cFa.cells_one
def mlC (n k : Nat) : List Cm := (List.range n).map fun i => if i < k then cT i else kC 0
theorem mlC_len (n k : Nat) : (mlC n k).length = n := by simp [mlC]
theorem mlC_at {n k i : Nat} (h : i < n) : (mlC n k)[i]? = some (if i < k then cT i else kC 0) := by
  simp [mlC, h]
theorem mlC_set {n k : Nat} (h : k < n) : (mlC n k).set k (cT k) = mlC n (k + 1) := by
  apply List.ext_getElem?
  intro j
  rw [List.getElem?_set]
  by_cases hj : j < n
  · rw [mlC_at hj, mlC_at hj, mlC_len]
    by_cases hk : k = j
    · subst hk
      rw [if_pos rfl, if_pos h, if_pos (by omega)]
    · rw [if_neg hk]
      by_cases h1 : j < k
      · rw [if_pos h1, if_pos (by omega)]
      · rw [if_neg h1, if_neg (by omega)]
  · have e1 : (mlC n k)[j]? = none := List.getElem?_eq_none (by rw [mlC_len]; omega)
    have e2 : (mlC n (k + 1))[j]? = none := List.getElem?_eq_none (by rw [mlC_len]; omega)
    rw [e1, e2, if_neg (by omega)]
theorem ccs_set (x : Cm) : ∀ (l : List Cm) (i : Nat), i < l.length → (ccs l).take (i * 9) ++ (x.cells ++ (ccs l).drop (i * 9 + 9)) = ccs (l.set i x)
  | [], i, h => absurd h (Nat.not_lt_zero _)
  | y :: l, 0, _ => by
    have h4 := y.cells_len
    simp only [ccs, List.map_cons, List.flatten_cons, List.set_cons_zero, Nat.zero_mul, List.take_zero, List.nil_append, Nat.zero_add]
    rw [List.drop_append_of_le_length (by omega), List.drop_of_length_le (by omega), List.nil_append]
  | y :: l, i + 1, h => by
    have h4 := y.cells_len
    have ih := ccs_set x l i (by simpa using h)
    simp only [ccs, List.map_cons, List.flatten_cons, List.set_cons_succ] at ih ⊢
    rw [← ih, List.take_append, List.take_of_length_le (by omega), List.drop_append, List.drop_of_length_le (by omega), h4]
    rw [show (i + 1) * 9 - 9 = i * 9 by omega, show (i + 1) * 9 + 9 - 9 = i * 9 + 9 by omega]
    simp
theorem heap_setCells_atC (g : Nat) (t : TypeId) : ∀ (vs : List Value) (o : Nat) (w : World) (cur : Array Value), w.heap[g]? = some (.cells cur t (0, 0)) → o + vs.length ≤ cur.size →
    (w.setCells g o vs).heap[g]? = some (.cells (cur.toList.take o ++ (vs ++ cur.toList.drop (o + vs.length))).toArray t (0, 0))
  | [], o, w, cur, h, _ => by simpa [World.setCells] using h
  | v :: vs, o, w, cur, h, ho => by
    rw [World.setCells]
    have h1 : (w.setCell ⟨g, o, none⟩ v).heap[g]? = some (.cells (cur.setIfInBounds o v) t (0, 0)) := Go.Joins.block_setCell (i := o) h _
    simp only [List.length_cons] at ho
    rw [heap_setCells_atC g t vs (o + 1) _ _ h1 (by simp; omega)]
    congr 3
    have ho' : o < cur.toList.length := by simp; omega
    rw [Array.toList_setIfInBounds, List.take_set, List.drop_set, if_pos (by omega), List.take_succ_eq_append_getElem ho', List.set_append_right _ _ (by simp; omega)]
    simp [Nat.min_eq_left (Nat.le_of_lt (show o < cur.size by omega)), Nat.add_assoc, Nat.add_comm 1]
theorem setCells_otherC (b k : Nat) (hk : k ≠ b) : ∀ (vs : List Value) (o : Nat) (w : World), (w.setCells b o vs).heap[k]? = w.heap[k]?
  | [], _, _ => rfl
  | v :: vs, o, w => by rw [World.setCells, setCells_otherC b k hk vs, Below.heap_setCell w ⟨b, o, none⟩ v k hk]
theorem setCells_belowC {B : Nat} {w : World} (g : Nat) (hg : B ≤ g) : ∀ (vs : List Value) (o : Nat) {w' : World}, Below B w w' → Below B w (w'.setCells g o vs)
  | [], _, _, h => h
  | v :: vs, o, _, h => setCells_belowC g hg vs (o + 1) (h.setCell hg v)
def RowL (w : World) (g : Nat) (l : List Cm) : Prop := w.heap[g]? = some (.cells (ccs l).toArray 42 (0, 0))
theorem RowL.set {w : World} {g : Nat} {l : List Cm} (h : RowL w g l) {i : Nat} (hi : i < l.length) (x : Cm) : RowL (w.setCells g (i * 9) x.cells) g (l.set i x) := by
  have h4 := x.cells_len
  have hl := ccs_len l
  have h1 := heap_setCells_atC g 42 x.cells (i * 9) w _ h (by rw [List.size_toArray]; omega)
  unfold RowL
  rw [h1, h4, List.toList_toArray, ccs_set x l i hi]
theorem RowL.there {w : World} {g : Nat} {l : List Cm} (h : RowL w g l) {i : Nat} (hi : i < l.length) (x : Cm) : w.there g (i * 9) x.cells.toArray.size := by
  have hl := ccs_len l
  rw [List.size_toArray, x.cells_len]
  intro j hj
  refine ⟨?_, frozen_of_row w g _ _ _ h⟩
  rw [cell_of_rowW w g _ _ _ _ h, List.getElem?_toArray, List.getElem?_eq_getElem (by omega)]
  rfl
theorem RowL.cl {w : World} {g : Nat} {l : List Cm} (h : RowL w g l) (hat : ∀ x ∈ l, x.At w.heap.size w) (hl : l.length ≤ 140737488355328) : CL w.heap.size w (some ⟨g, 0, none⟩) l := by
  refine ⟨hat, fun _ => ⟨_, rfl, lt_of_rowW h, fun j v hj => ?_⟩, hl⟩
  rw [Addr.add_mid, Nat.zero_add, cell_of_rowW w g j _ _ _ h]
  simpa using hj
theorem made_cmds (n : Nat) : madeCells z9.toArray (n * 9) = (ccs (mlC n 0)).toArray := by
  apply Array.toList_inj.1
  apply List.ext_getElem?
  intro j
  have hz : z9.toArray.size = 9 := rfl
  by_cases hj : j < n * 9
  · have hi : j / 9 < n := by omega
    have hm : j % 9 < 9 := Nat.mod_lt _ (by decide)
    have hx := mlC_at (n := n) (k := 0) hi
    rw [if_neg (by omega)] at hx
    have hc : (kC 0).cells = z9 := rfl
    have hg : z9[j % 9]? = some (z9[j % 9]'(by simpa [z9] using hm)) := List.getElem?_eq_getElem _
    have h2 := ccs_at (mlC n 0) (j / 9) _ hx (j % 9) _ (by rw [hc]; exact hg)
    rw [show j / 9 * 9 + j % 9 = j by omega] at h2
    rw [List.toList_toArray, h2]
    have hg2 : z9.toArray[j % 9]! = z9[j % 9]'(by simpa [z9] using hm) := by
      rw [getElem!_def, List.getElem?_toArray, hg]
    simp only [madeCells, hz]
    simp [hj, hz]
    rw [← hg2]
    simp
  · have h1 : (ccs (mlC n 0)).length = n * 9 := by rw [ccs_len, mlC_len]
    rw [List.toList_toArray, List.getElem?_eq_none (by omega : (ccs (mlC n 0)).length ≤ j), List.getElem?_eq_none (by simp [madeCells]; omega)]
theorem make_cmds (n : Nat) (hn : n ≤ 300) (w : World) : (Instr.makeSlice 39 (.int .i64 (n : Int)) (.int .i64 (n : Int))).run Tryz.prog w = .ok (.slice (some ⟨w.heap.size, 0, none⟩) n n) (w.alloc (.cells (ccs (mlC n 0)).toArray 42)) := by
  obtain ⟨i, hi, hz, hs, hb⟩ := info_parts Tryz.infoCmd
  have h := run_make (P := Tryz.prog) w 39 42 i _ Tryz.underlying39 hi hz .i64 .i64 n n (by omega) (Int.le_refl _) (by rw [hb]; omega) (by omega)
  simp only [Int.toNat_natCast, hs] at h
  rw [h, ← made_cmds]
  rfl
theorem zV_at (N : Nat) (w : World) : zV.At N w := mk0_at (by decide) (by decide) (by decide)
theorem cT_at {i : Nat} (h : i ≤ 300) (N : Nat) (w : World) : (cT i).At N w := by
  unfold cT
  exact ⟨by dsimp only; omega, by dsimp only; omega, by dsimp only; omega, by dsimp only; omega, by simp, zV_at N w⟩
theorem kC_at (N : Nat) (w : World) : (kC 0).At N w := ⟨by decide, by decide, by decide, by decide, by decide, zV_at N w⟩
theorem cFa_at (N : Nat) (w : World) : cFa.At N w := ⟨by decide, by decide, by decide, by decide, by decide, zV_at N w⟩
theorem cT_vE {i : Nat} (h : i ≤ 300) : (cT i).vE = 0 := by
  unfold Cm.vE Cm.rng
  rw [show (cT i).val = zV from rfl, zV_vE]
  have h1 : eOk (cT i).a (cA (cT i).kind) = true := by
    unfold eOk
    show ((i : Int) == 0 || (decide (0 < (i : Int)) && true)) = true
    by_cases h0 : i = 0
    · subst h0; rfl
    · have : (0 : Int) < i := by omega
      rw [decide_eq_true this]
      simp
  rw [h1]
  have : decide (64 < (cT i).name.length) = false := rfl
  simp [cT, cKn, cN, eOk, cB, zV, VT.kd]
theorem cFa_vE : cFa.vE = 0 := by
  unfold Cm.vE Cm.rng
  rw [show cFa.val = zV from rfl, zV_vE]
  decide
theorem mlC_mem {n : Nat} {x : Cm} (h : x ∈ mlC n n) : ∃ i, i < n ∧ x = cT i := by
  unfold mlC at h
  obtain ⟨i, hi, rfl⟩ := List.mem_map.1 h
  have hi := List.mem_range.1 hi
  exact ⟨i, hi, if_pos hi⟩
theorem allC_pass : ∀ {l m : List Cm}, (∀ x ∈ l, x.vE = 0 ∧ x.ends = false) → allC (l ++ m) = allC m
  | [], m, _ => rfl
  | x :: l, m, h => by
    have hx := h x (List.mem_cons_self ..)
    rw [List.cons_append, allC, if_neg (by rw [hx.1]; simp), if_neg (by rw [hx.2]; simp)]
    exact allC_pass fun y hy => h y (List.mem_cons_of_mem _ hy)
theorem mlC_good {n : Nat} (hn : n ≤ 300) : ∀ x ∈ mlC n n, x.vE = 0 ∧ x.ends = false := by
  intro x hx
  obtain ⟨i, hi, rfl⟩ := mlC_mem hx
  exact ⟨cT_vE (by omega), rfl⟩
theorem allE_ml {n : Nat} (hn : n ≤ 300) : allE (mlC n n) = if 256 < n then 2 else 0 := by
  unfold allE
  rw [mlC_len]
  have := allC_pass (l := mlC n n) (m := []) (mlC_good hn)
  rw [List.append_nil] at this
  rw [this]
  rfl
theorem allE_set {n e : Nat} (hn : n ≤ 256) (he : e < n) : allE ((mlC n n).set e cFa) = if e + 1 < n then 7 else 0 := by
  unfold allE
  rw [List.length_set, mlC_len, if_neg (by omega), List.set_eq_take_append_cons_drop, if_pos (by rw [mlC_len]; exact he)]
  rw [allC_pass fun x hx => mlC_good (by omega) x (List.mem_of_mem_take hx)]
  rw [allC, if_neg (by rw [cFa_vE]; simp)]
  have hl : ((mlC n n).drop (e + 1)).length = n - (e + 1) := by rw [List.length_drop, mlC_len]
  by_cases h : e + 1 < n
  · rw [if_pos h, if_pos]
    refine ⟨rfl, fun h0 => ?_⟩
    rw [h0] at hl
    simp at hl
    omega
  · rw [if_neg h]
    have h0 : (mlC n n).drop (e + 1) = [] := List.eq_nil_of_length_eq_zero (by omega)
    rw [h0, if_neg (by simp)]
    rfl
theorem ml_at {n k : Nat} (hn : n ≤ 300) (N : Nat) (w : World) : ∀ x ∈ mlC n k, x.At N w := by
  intro x hx
  unfold mlC at hx
  obtain ⟨i, hi, rfl⟩ := List.mem_map.1 hx
  have hi := List.mem_range.1 hi
  split
  · exact cT_at (by omega) N w
  · exact kC_at N w
theorem mlF_at {n k e : Nat} (hn : n ≤ 300) (N : Nat) (w : World) : ∀ x ∈ (mlC n k).set e cFa, x.At N w := by
  intro x hx
  rcases List.mem_or_eq_of_mem_set hx with h | rfl
  · exact ml_at hn N w x h
  · exact cFa_at N w
end Go.Proofs.YtnfobnnbeefeeaaGreatDoor.Wi
