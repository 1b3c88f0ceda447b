/- Commands in memory; kinds. -/
import Derived.Test.YtnfobnnbeefeeaaGreatDoorGH
import Derived.Test.YtnfobnnbeefeeaaGreatDoorGN
namespace Go.Proofs.YtnfobnnbeefeeaaGreatDoor.Wi
open Go Go.RowKit
set_option linter.unusedVariables false
set_option linter.unusedSimpArgs false
def Cm.cells (x : Cm) : List Value := .int .i64 x.kind :: .int .i64 x.time :: .int .i64 x.a :: .int .i64 x.b :: .string (str x.name) :: x.val.cells
theorem Cm.cells_len (x : Cm) : x.cells.length = 9 := by unfold Cm.cells; simp [x.val.cells_len]
theorem Cm.cells_one' (x : Cm) : ∀ u ∈ x.cells, u.oneCell' = true := by
  intro u hu
  unfold Cm.cells at hu
  simp only [List.mem_cons] at hu
  rcases hu with rfl | rfl | rfl | rfl | rfl | hu
  iterate 5 rfl
  exact x.val.cells_one' u hu
theorem Cm.cells_one (x : Cm) : x.cells.toArray.all (·.oneCell') = true := by
  rw [Array.all_eq_true_iff_forall_mem]
  intro u hu
  exact x.cells_one' u (by simpa using hu)
theorem Tryz.cmSize (x : Cm) : (Tryz.prog.info? 42).map (·.size) = some x.cells.length := by rw [x.cells_len]; kernel_rfl
theorem Tryz.cmSize' (x : Cm) : (Tryz.prog.info? 42).map (·.size) = some x.cells.toArray.size := by rw [List.size_toArray]; exact Tryz.cmSize x
theorem Cm.nine (x : Cm) : 9 = x.cells.toArray.size := by rw [List.size_toArray, x.cells_len]
/-- A command's value's lists lie below N, its numbers and sizes are those of Go. -/
structure Cm.At (N : Nat) (w : World) (x : Cm) : Prop where
  kind : -9223372036854775808 ≤ x.kind ∧ x.kind ≤ 9223372036854775807
  time : -9223372036854775808 ≤ x.time ∧ x.time ≤ 9223372036854775807
  a : -9223372036854775808 ≤ x.a ∧ x.a ≤ 9223372036854775807
  b : -9223372036854775808 ≤ x.b ∧ x.b ≤ 9223372036854775807
  name : x.name.length ≤ 140737488355328
  val : x.val.At N w
theorem Cm.At.keep {N : Nat} {w w' : World} {x : Cm} (h : x.At N w) (hk : ∀ k, k < N → w'.heap[k]? = w.heap[k]?) : x.At N w' := ⟨h.kind, h.time, h.a, h.b, h.name, h.val.keep hk⟩
theorem Cm.At.mono {N N' : Nat} {w : World} {x : Cm} (h : x.At N w) (hN : N ≤ N') : x.At N' w := ⟨h.kind, h.time, h.a, h.b, h.name, h.val.mono hN⟩
theorem Cm.At.below {N : Nat} {w w' : World} {x : Cm} (h : x.At N w) (hb : Below N w w') : x.At N w' := h.keep fun k hk => hb.block k hk
/-- Where a command lies: the facts that a walk asks for. -/
theorem rowC {W : World} {g : Nat} {x : Cm} (h : W.heap[g]? = some (.cells x.cells.toArray 42 (0, 0))) : ∀ (j : Nat) u, x.cells[j]? = some u → W.cell? ((⟨g, 0, none⟩ : Addr).add j) = some u := fun j u hj => by
  rw [Addr.add_mid, Nat.zero_add, cell_of_rowW W g j _ _ _ h]
  simpa using hj
structure CmC (W : World) (g : Nat) (x : Cm) : Prop where
  c0 : W.cell? ⟨g, 0, none⟩ = some (.int .i64 x.kind)
  c1 : W.cell? ⟨g, 1, none⟩ = some (.int .i64 x.time)
  c2 : W.cell? ⟨g, 2, none⟩ = some (.int .i64 x.a)
  c3 : W.cell? ⟨g, 3, none⟩ = some (.int .i64 x.b)
  c4 : W.cell? ⟨g, 4, none⟩ = some (.string (str x.name))
  c5 : W.cell? ⟨g, 5, none⟩ = some (.int .i64 x.val.kd)
  cv : ∀ (j : Nat) u, x.val.cells[j]? = some u → W.cell? ((⟨g, 5, none⟩ : Addr).add j) = some u
theorem cmC {W : World} {g : Nat} {x : Cm} (h : W.heap[g]? = some (.cells x.cells.toArray 42 (0, 0))) : CmC W g x := by
  have hv : ∀ (j : Nat) u, x.val.cells[j]? = some u → W.cell? ((⟨g, 5, none⟩ : Addr).add j) = some u := fun j u hj => by
    rw [Addr.add_mid, cell_of_rowW W g (5 + j) _ _ _ h]
    rw [Nat.add_comm]
    simpa [Cm.cells] using hj
  refine ⟨?_, ?_, ?_, ?_, ?_, ?_, hv⟩
  · rw [cell_of_rowW W g 0 _ _ _ h]; rfl
  · rw [cell_of_rowW W g 1 _ _ _ h]; rfl
  · rw [cell_of_rowW W g 2 _ _ _ h]; rfl
  · rw [cell_of_rowW W g 3 _ _ _ h]; rfl
  · rw [cell_of_rowW W g 4 _ _ _ h]; rfl
  · have := hv 0 (.int .i64 x.val.kd) (by cases x.val; rfl)
    rwa [Addr.add_mid] at this
theorem rowCB {W W' : World} {g : Nat} {x : Cm} (h : W.heap[g]? = some (.cells x.cells.toArray 42 (0, 0))) (hb : Below W.heap.size W W') : ∀ (j : Nat) u, x.cells[j]? = some u → W'.cell? ((⟨g, 0, none⟩ : Addr).add j) = some u :=
  rowC ((hb.block g (lt_of_rowK h)).trans h)
theorem cknown_any (k : Int) (w : World) : Calls Tryz.prog 64 #[.int .i64 k] w fun e w' => e = .returned (.bool (cKn k)) ∧ w' = w := by
  by_cases h1 : 1 ≤ k
  · by_cases h2 : k ≤ 6
    · rw [show cKn k = true by simp [cKn, h1, h2]]
      go_enter Tryz.func64, Tryz.ntmps64
      go_wp2
      go_ret
      exact ⟨rfl, rfl⟩
    · rw [show cKn k = false by simp [cKn, h1, h2]]
      go_enter Tryz.func64, Tryz.ntmps64
      go_wp2
      go_ret
      exact ⟨rfl, rfl⟩
  · rw [show cKn k = false by simp [cKn, h1]]
    go_enter Tryz.func64, Tryz.ntmps64
    go_wp2
    go_ret
    exact ⟨rfl, rfl⟩
theorem callowed_any (n : Int) (c : Bool) (w : World) : Calls Tryz.prog 66 #[.int .i64 n, .bool c] w fun e w' => e = .returned (.bool (eOk n c)) ∧ w' = w := by
  by_cases h0 : n = 0
  · subst h0
    rw [show eOk 0 c = true from rfl]
    go_enter Tryz.func66, Tryz.ntmps66
    go_wp2_with fail
    go_ret
    exact ⟨rfl, rfl⟩
  · have h0' : (n == 0) = false := by simpa using h0
    by_cases h1 : 0 < n
    · rw [show eOk n c = c by simp [eOk, h0, h1]]
      cases c
      · go_enter Tryz.func66, Tryz.ntmps66
        go_wp2_with fail
        go_ret
        exact ⟨rfl, rfl⟩
      · go_enter Tryz.func66, Tryz.ntmps66
        go_wp2_with fail
        go_ret
        exact ⟨rfl, rfl⟩
    · rw [show eOk n c = false by simp [eOk, h0, h1]]
      go_enter Tryz.func66, Tryz.ntmps66
      go_wp2_with fail
      go_ret
      exact ⟨rfl, rfl⟩
end Go.Proofs.YtnfobnnbeefeeaaGreatDoor.Wi
/- Commands in a row. -/
namespace Go.Proofs.YtnfobnnbeefeeaaGreatDoor.Wi
open Go Go.RowKit
set_option linter.unusedVariables false
set_option linter.unusedSimpArgs false
def ccs (l : List Cm) : List Value := (l.map Cm.cells).flatten
theorem ccs_len : ∀ l : List Cm, (ccs l).length = l.length * 9
  | [] => rfl
  | x :: l => by
    have h := ccs_len l
    have h2 := x.cells_len
    simp only [ccs, List.map_cons, List.flatten_cons, List.length_append, List.length_cons] at h ⊢
    omega
theorem ccs_at : ∀ (l : List Cm) (i : Nat) (x : Cm), l[i]? = some x → ∀ (j : Nat) (v : Value), x.cells[j]? = some v → (ccs l)[i * 9 + j]? = some v
  | [], i, x, h => by simp at h
  | y :: l, 0, x, h => fun j v hj => by
    obtain rfl : y = x := by simpa using h
    have := (List.getElem?_eq_some_iff.1 hj).1
    simp only [ccs, List.map_cons, List.flatten_cons, Nat.zero_mul, Nat.zero_add]
    rw [List.getElem?_append_left this]
    exact hj
  | y :: l, i + 1, x, h => fun j v hj => by
    have ih := ccs_at l i x (by simpa using h) j v hj
    have h4 := y.cells_len
    simp only [ccs, List.map_cons, List.flatten_cons] at ih ⊢
    rw [List.getElem?_append_right (by omega), h4, show (i + 1) * 9 + j - 9 = i * 9 + j by omega]
    exact ih
/-- Events in a row, that lie below N. -/
structure CL (N : Nat) (w : World) (ao : Option Addr) (l : List Cm) : Prop where
  at_ : ∀ x ∈ l, x.At N w
  row : l ≠ [] → ∃ ad, ao = some ad ∧ ad.block < N ∧ ∀ (j : Nat) v, (ccs l)[j]? = some v → w.cell? (ad.add j) = some v
  len : l.length ≤ 140737488355328
theorem CL.keep {N : Nat} {w w' : World} {ao : Option Addr} {l : List Cm} (h : CL N w ao l) (hk : ∀ k, k < N → w'.heap[k]? = w.heap[k]?) : CL N w' ao l :=
  ⟨fun x hx => (h.at_ x hx).keep hk, fun hl => by
    obtain ⟨ad, e, hb, hc⟩ := h.row hl
    refine ⟨ad, e, hb, fun j v hj => ?_⟩
    have e2 : w'.cell? (ad.add j) = w.cell? (ad.add j) := World.cell?_of_block (by rw [addr_blockK]; exact hk _ hb)
    rw [e2]
    exact hc j v hj, h.len⟩
theorem CL.below {N : Nat} {w w' : World} {ao : Option Addr} {l : List Cm} (h : CL N w ao l) (hb : Below N w w') : CL N w' ao l := h.keep fun k hk => hb.block k hk
theorem CL.mono {N N' : Nat} {w : World} {ao : Option Addr} {l : List Cm} (h : CL N w ao l) (hN : N ≤ N') : CL N' w ao l :=
  ⟨fun x hx => (h.at_ x hx).mono hN, fun hl => by obtain ⟨ad, e, hb, hc⟩ := h.row hl; exact ⟨ad, e, Nat.lt_of_lt_of_le hb hN, hc⟩, h.len⟩
theorem CL.elem {N : Nat} {w : World} {ao : Option Addr} {l : List Cm} (h : CL N w ao l) {i : Nat} {x : Cm} (hx : l[i]? = some x) :
    x.At N w ∧ ∃ ad, ao = some ad ∧ ad.block < N ∧ ∀ W : World, (∀ k, k < N → W.heap[k]? = w.heap[k]?) → ∀ (j : Nat) v, x.cells[j]? = some v → W.cell? ((ad.add (i * 9)).add j) = some v := by
  obtain ⟨ad, e, hb, hc⟩ := h.row (fun e => by rw [e] at hx; simp at hx)
  refine ⟨h.at_ x (List.mem_of_getElem? hx), ad, e, hb, fun W hW j v hj => ?_⟩
  have e2 : W.cell? (ad.add (i * 9 + j)) = w.cell? (ad.add (i * 9 + j)) := World.cell?_of_block (by rw [addr_blockK]; exact hW _ hb)
  rw [Addr.add_add, e2]
  exact hc _ v (ccs_at l i x hx j v hj)
theorem CL.one {w : World} {x : Cm} (hx : x.At w.heap.size w) : CL (w.alloc (.cells x.cells.toArray 42)).heap.size (w.alloc (.cells x.cells.toArray 42)) (some ⟨w.heap.size, 0, none⟩) [x] := by
  have hb : Below w.heap.size w (w.alloc (.cells x.cells.toArray 42)) := (Below.refl _ _).alloc (Nat.le_refl _) _
  have hs : w.heap.size < (w.alloc (.cells x.cells.toArray 42)).heap.size := by simp
  refine ⟨fun y hy => ?_, fun _ => ⟨_, rfl, hs, fun j v hj => ?_⟩, by simp⟩
  · rw [List.mem_singleton.1 hy]; exact (hx.below hb).mono (Nat.le_of_lt hs)
  · rw [Addr.add_mid, Nat.zero_add, cell_of_rowW _ w.heap.size j _ _ _ (heap_alloc_new w _)]
    simpa [ccs] using hj
theorem CL.made {w : World} {l : List Cm} (h : ∀ x ∈ l, x.At w.heap.size w) (hl : l.length ≤ 140737488355328) : CL (w.alloc (.cells (ccs l).toArray 42)).heap.size (w.alloc (.cells (ccs l).toArray 42)) (some ⟨w.heap.size, 0, none⟩) l := by
  have hb : Below w.heap.size w (w.alloc (.cells (ccs l).toArray 42)) := (Below.refl _ _).alloc (Nat.le_refl _) _
  have hs : w.heap.size < (w.alloc (.cells (ccs l).toArray 42)).heap.size := by simp
  refine ⟨fun y hy => ((h y hy).below hb).mono (Nat.le_of_lt hs), fun _ => ⟨_, rfl, hs, fun j v hj => ?_⟩, hl⟩
  rw [Addr.add_mid, Nat.zero_add, cell_of_rowW _ w.heap.size j _ _ _ (heap_alloc_new w _)]
  simpa using hj
end Go.Proofs.YtnfobnnbeefeeaaGreatDoor.Wi
/- Saturate, Ends; the table of kinds: about, has, Name, Made. -/
namespace Go.Proofs.YtnfobnnbeefeeaaGreatDoor.Wi
open Go Go.RowKit
set_option linter.unusedVariables false
set_option linter.unusedSimpArgs false
set_option maxRecDepth 100000 in
theorem csat_any (n t : Int) (hn : -9223372036854775808 ≤ n ∧ n ≤ 9223372036854775807) (ht : -9223372036854775808 ≤ t ∧ t ≤ 9223372036854775807) (w : World) : Calls Tryz.prog 41 #[.int .i64 n, .int .i64 t] w fun e w' => e = .returned (.int .i64 (sat n t)) ∧ w' = w := by
  obtain ⟨R, hR⟩ : ∃ R, R = sat n t := ⟨_, rfl⟩
  rw [← hR]
  unfold sat at hR
  by_cases h1 : n < 0
  · obtain rfl : R = 0 := by rw [hR, if_pos (.inl h1)]
    clear hR
    go_enter Tryz.func41, Tryz.ntmps41
    go_wp2_with fail
    go_ret
    exact ⟨rfl, rfl⟩
  by_cases h2 : t < 0
  · obtain rfl : R = 0 := by rw [hR, if_pos (.inr h2)]
    clear hR
    go_enter Tryz.func41, Tryz.ntmps41
    go_wp2_with fail
    go_ret
    exact ⟨rfl, rfl⟩
  rw [if_neg (by omega)] at hR
  have a1 : -9223372036854775808 ≤ 4611686018427387903 - t := by omega
  have a2 : 4611686018427387903 - t < 9223372036854775808 := by omega
  by_cases h3 : 4611686018427387903 - t < n
  · obtain rfl : R = 4611686018427387903 := by rw [hR, if_pos h3]
    clear hR
    go_enter Tryz.func41, Tryz.ntmps41
    go_wp2_with fail
    go_ret
    exact ⟨rfl, rfl⟩
  · obtain rfl : R = n + t := by rw [hR, if_neg h3]
    clear hR
    have a3 : -9223372036854775808 ≤ n + t := by omega
    have a4 : n + t < 9223372036854775808 := by omega
    go_enter Tryz.func41, Tryz.ntmps41
    go_wp2_with fail
    go_ret
    exact ⟨rfl, rfl⟩
set_option maxRecDepth 100000 in
theorem cends_any (x : Cm) (w : World) : Calls Tryz.prog 32 #[.agg x.cells.toArray] w fun e w' => e = .returned (.bool x.ends) ∧ Below w.heap.size w w' := by
  obtain ⟨w1, hw1⟩ : ∃ bx, bx = w.alloc (.cells x.cells.toArray 42) := ⟨_, rfl⟩
  obtain ⟨g, hg⟩ : ∃ bx, bx = w.heap.size := ⟨_, rfl⟩
  have bw1 : Below w.heap.size w w1 := by rw [hw1]; exact (Below.refl _ _).alloc (Nat.le_refl _) _
  have nw1 : w1.heap[g]? = some (.cells x.cells.toArray 42 (0, 0)) := by rw [hw1, hg]; exact heap_alloc_new _ _
  have Kw1 := Lib.hid (rowC nw1)
  have Cw1 := Lib.hid (cmC nw1)
  have Hw1 := Lib.hid hw1
  have Hg := Lib.hid hg
  have Bw1 := Lib.hid bw1
  have Nw1 := Lib.hid nw1
  clear hw1 hg bw1 nw1
  have c0 := Cw1.out.c0
  obtain ⟨R, hR⟩ : ∃ R, R = x.ends := ⟨_, rfl⟩
  rw [← hR]
  unfold Cm.ends at hR
  obtain ⟨k, hk⟩ : ∃ k, k = x.kind := ⟨_, rfl⟩
  rw [← hk] at c0 hR
  clear hk
  go_enter Tryz.func32, Tryz.ntmps32
  go_upto_region 1 with fail
  rw [← Hw1.out, ← Hg.out]
  by_cases h0 : k = 4
  · subst h0
    obtain rfl : R = true := by rw [hR]; rfl
    clear hR
    go_wp2_with fail
    go_ret
    exact ⟨rfl, Bw1.out⟩
  by_cases h1 : k = 5
  · subst h1
    obtain rfl : R = true := by rw [hR]; rfl
    clear hR
    go_wp2_with fail
    go_ret
    exact ⟨rfl, Bw1.out⟩
  by_cases h2 : k = 6
  · subst h2
    obtain rfl : R = true := by rw [hR]; rfl
    clear hR
    go_wp2_with fail
    go_ret
    exact ⟨rfl, Bw1.out⟩
  obtain rfl : R = false := by rw [hR]; simp; omega
  have f0 : (k == 4) = false := by simpa using h0
  have f1 : (k == 5) = false := by simpa using h1
  have f2 : (k == 6) = false := by simpa using h2
  clear hR
  go_wp2_with fail
  go_ret
  exact ⟨rfl, Bw1.out⟩
/-- What is to be known of a kind. -/
structure Sh where
  nm : List UInt8
  fl : List UInt8
  ev : Int
def Sh.cells (x : Sh) : List Value := [.string (str x.nm), .string (str x.fl), .int .i64 x.ev]
theorem Sh.cells_len (x : Sh) : x.cells.length = 3 := rfl
theorem Sh.cells_one (x : Sh) : x.cells.toArray.all (·.oneCell') = true := by
  rw [Array.all_eq_true_iff_forall_mem]
  intro u hu
  have hu : u ∈ x.cells := by simpa using hu
  unfold Sh.cells at hu
  simp only [List.mem_cons, List.not_mem_nil, or_false] at hu
  rcases hu with rfl | rfl | rfl <;> rfl
theorem Tryz.shSize (x : Sh) : (Tryz.prog.info? 87).map (·.size) = some x.cells.length := by rw [x.cells_len]; kernel_rfl
theorem Tryz.shSize' (x : Sh) : (Tryz.prog.info? 87).map (·.size) = some x.cells.toArray.size := by rw [List.size_toArray]; exact Tryz.shSize x
theorem Sh.three (x : Sh) : 3 = x.cells.toArray.size := rfl
def z3 : List Value := [.string ⟨#[]⟩, .string ⟨#[]⟩, .int .i64 0]
def lit3 : Array Value := #[.string ⟨#[]⟩, .string ⟨#[]⟩, .int .i64 0]
theorem Sh.threeZ (x : Sh) : z3.toArray.size = x.cells.toArray.size := rfl
theorem rowS {W : World} {g : Nat} {x : Sh} (h : W.heap[g]? = some (.cells x.cells.toArray 87 (0, 0))) : ∀ (j : Nat) u, x.cells[j]? = some u → W.cell? ((⟨g, 0, none⟩ : Addr).add j) = some u := fun j u hj => by
  rw [Addr.add_mid, Nat.zero_add, cell_of_rowW W g j _ _ _ h]
  simpa using hj
def cFls : List (List UInt8) := [[65, 66], [65], [65, 66, 78, 86], [86], [78], [86]]
def cFl (k : Int) : List UInt8 := if 1 ≤ k ∧ k ≤ 6 then cFls.getD (k.toNat - 1) [] else []
def shK (k : Int) : Sh := ⟨cNm k, cFl k, eK k⟩
def shN (i : Nat) : Sh := ⟨cNms.getD i [], cFls.getD i [], [11, 13, 7, 16, 17, 21].getD i 0⟩
theorem shK_N (i : Nat) (hi : i < 6) : shK ((i : Int) + 1) = shN i := by
  have h : ∀ j : Fin 6, eK ((j.val : Int) + 1) = [11, 13, 7, 16, 17, 21].getD j.val 0 := by decide +kernel
  unfold shK shN cNm cFl
  rw [if_pos (by omega), if_pos (by omega), show ((i : Int) + 1).toNat - 1 = i by omega, h ⟨i, hi⟩]
theorem shK_off {k : Int} (h : ¬ (1 ≤ k ∧ k ≤ 6)) : shK k = ⟨[], [], 0⟩ := by
  unfold shK cNm cFl eK
  rw [if_neg h, if_neg h, if_neg (by omega), if_neg (by omega), if_neg (by omega), if_neg (by omega), if_neg (by omega), if_neg (by omega)]
/-- The table of kinds. -/
structure CB (B : Nat) (w : World) : Prop where
  eb : EB B w
  lt : 0 < B
  sh : ∀ i, i < 6 → ∀ (j : Nat) v, (shN i).cells[j]? = some v → w.cell? ⟨0, i * 3 + j, none⟩ = some v
theorem CB.on {B : Nat} {w w' : World} (h : CB B w) (hb : Below B w w') : CB B w' := ⟨h.eb.on hb, h.lt, fun i hi j v hj => by
  rw [World.cell?_of_block (w := w) (hb.block _ h.lt)]; exact h.sh i hi j v hj⟩
theorem CB.base {B C : Nat} {w : World} (h : CB B w) (hC : B ≤ C) : CB C w := ⟨h.eb.base hC, Nat.lt_of_lt_of_le h.lt hC, h.sh⟩
set_option maxHeartbeats 4000000 in
set_option maxRecDepth 100000 in
theorem cabout_any (k : Int) (hk : -9223372036854775808 ≤ k ∧ k ≤ 9223372036854775807) (w : World) (hc : CB w.heap.size w) : Calls Tryz.prog 65 #[.int .i64 k] w fun e w' => e = .returned (.agg (shK k).cells.toArray) ∧ Below w.heap.size w w' := by
  obtain ⟨w1, hw1⟩ : ∃ w1, w1 = w.alloc (.cells z3.toArray 87) := ⟨_, rfl⟩
  obtain ⟨g, hg⟩ : ∃ g, g = w.heap.size := ⟨_, rfl⟩
  have b1 : Below w.heap.size w w1 := by rw [hw1]; exact (Below.refl _ _).alloc (Nat.le_refl _) _
  have n1 : w1.heap[g]? = some (.cells z3.toArray 87 (0, 0)) := by rw [hw1, hg]; exact heap_alloc_new _ _
  have HW1 := Lib.hid (show w1 = w.alloc (.cells #[.string ⟨#[]⟩, .string ⟨#[]⟩, .int .i64 0] 87) from hw1)
  have HG := Lib.hid hg
  have B1 := Lib.hid b1
  have N1 := Lib.hid n1
  have HC := Lib.hid (hc.on b1)
  have KN := Lib.hid (cknown_any k w1)
  have FIN := Lib.hid (show ∀ cs, Below w.heap.size w (w1.setRow g cs) from fun cs => ⟨b1.os, b1.tape, b1.output, by simpa using b1.size, fun q hq => (setRow_other w1 g q _ (by omega)).trans (b1.block q hq)⟩)
  clear hw1 hg b1 n1 hc
  by_cases h : 1 ≤ k ∧ k ≤ 6
  · obtain ⟨i, rfl⟩ : ∃ i : Nat, k = (i : Int) + 1 := ⟨k.toNat - 1, by omega⟩
    have hi : i < 6 := by omega
    rw [show cKn ((i : Int) + 1) = true by simp [cKn]; omega] at KN
    rw [shK_N i hi]
    have hr := HC.out.sh i hi
    obtain ⟨F, hF⟩ : ∃ F, F = shN i := ⟨_, rfl⟩
    rw [← hF] at hr ⊢
    have KR := Lib.hid (show ∀ (j : Nat) v, F.cells[j]? = some v → w1.cell? ((⟨0, i * 3, none⟩ : Addr).add j) = some v from fun j v hj => by rw [Addr.add_mid]; exact hr j v hj)
    have i0 : (0 : Int) ≤ (i : Int) := by omega
    have i1 : (i : Int) < 6 := by omega
    clear hr hF h hk
    go_enter Tryz.func65, Tryz.ntmps65
    go_upto_region 1 with fail
    rw [← HW1.out, ← HG.out]
    go_wp2_with fail
    refine KN.out.mono ?_
    rintro e w2 ⟨rfl, hw2⟩
    have hw2' := hw2.symm
    subst hw2'
    clear hw2
    go_wp2_with (first | (with_reducible show wpList _ _ _ _ _ _; refine wpList_load_allW rfl 87 (.tmp 9) rfl ⟨0,i*3,none⟩ rfl F.cells _ KR.out Tryz.underlying87 rfl (Tryz.shSize F) ?_) | (with_reducible show wpList _ _ _ _ _ _; refine wpList_store_whole rfl 87 (.tmp 2) (.tmp 10) rfl g 87 z3.toArray F.cells.toArray rfl rfl N1.out (Tryz.shSize' F) (Sh.threeZ F) F.cells_one ?_))
    refine bodyPost_ret (results_cell_row rfl _ _ g 87 F.cells.toArray (0, 0) _ rfl (setRow_heap _ g _ _ _ _ N1.out) Tryz.underlying87 rfl (Tryz.shSize' F)) rfl ?_
    exact ⟨rfl, FIN.out _⟩
  · rw [show cKn k = false by simp [cKn]; omega] at KN
    rw [shK_off h]
    have SB := Lib.hid (show (Tryz.prog.info? 87).map (·.size) = some lit3.size by kernel_rfl)
    have ON := Lib.hid (show lit3.all (·.oneCell') = true from (⟨[], [], 0⟩ : Sh).cells_one)
    have hz : (⟨[], [], 0⟩ : Sh).cells.toArray = lit3 := rfl
    rw [hz]
    clear hz
    clear hk h
    go_enter Tryz.func65, Tryz.ntmps65
    go_upto_region 1 with fail
    rw [← HW1.out, ← HG.out]
    go_wp2_with fail
    refine KN.out.mono ?_
    rintro e w2 ⟨rfl, hw2⟩
    have hw2' := hw2.symm
    subst hw2'
    clear hw2
    go_wp2_with (with_reducible show wpList _ _ _ _ _ _; refine wpList_store_whole rfl 87 (.tmp 2) (.tmp 6) rfl g 87 z3.toArray lit3 rfl rfl N1.out SB.out rfl ON.out ?_)
    refine bodyPost_ret (results_cell_row rfl _ _ g 87 lit3 (0, 0) _ rfl (setRow_heap _ g _ _ _ _ N1.out) Tryz.underlying87 rfl SB.out) rfl ?_
    exact ⟨rfl, FIN.out _⟩
theorem chas_any (F : Sh) (c : UInt8) (w : World) : Calls Tryz.prog 67 #[.agg F.cells.toArray, .int .u8 (c.toNat : Int)] w fun e w' => e = .returned (.bool (hasL F.fl c)) ∧ Below w.heap.size w w' := by
  have IB := fun W => Tryz.strings_IndexByte (str F.fl) (c.toNat : Int) W
  rw [str_datE, show ((c.toNat : Int).toNat.toUInt8) = c by simp] at IB
  unfold hasL
  obtain ⟨w1, hw1⟩ : ∃ bx, bx = w.alloc (.cells F.cells.toArray 87) := ⟨_, rfl⟩
  obtain ⟨g, hg⟩ : ∃ bx, bx = w.heap.size := ⟨_, rfl⟩
  have bw1 : Below w.heap.size w w1 := by rw [hw1]; exact (Below.refl _ _).alloc (Nat.le_refl _) _
  have nw1 : w1.heap[g]? = some (.cells F.cells.toArray 87 (0, 0)) := by rw [hw1, hg]; exact heap_alloc_new _ _
  have Kw1 := Lib.hid (rowS nw1)
  have Hw1 := Lib.hid hw1
  have Hg := Lib.hid hg
  have Bw1 := Lib.hid bw1
  have Nw1 := Lib.hid nw1
  clear hw1 hg bw1 nw1
  have c1 : w1.cell? ⟨g, 1, none⟩ = some (.string (str F.fl)) := by rw [cell_of_rowW w1 g 1 _ _ _ Nw1.out]; rfl
  obtain ⟨S, hS⟩ : ∃ S, S = str F.fl := ⟨_, rfl⟩
  rw [← hS] at IB c1
  obtain ⟨d, hd⟩ : ∃ d, d = Lib.indexByte F.fl c := ⟨_, rfl⟩
  rw [← hd] at IB ⊢
  obtain ⟨m, hm⟩ : ∃ m : Int, m = (c.toNat : Int) := ⟨_, rfl⟩
  rw [← hm] at IB ⊢
  have HIB := Lib.hid IB
  clear hS hd hm IB
  by_cases h : 0 ≤ d
  · rw [decide_eq_true h]
    go_enter Tryz.func67, Tryz.ntmps67
    go_upto_region 1 with fail
    rw [← Hw1.out, ← Hg.out]
    go_wp2_with fail
    refine (HIB.out w1).mono ?_
    rintro e w2 ⟨rfl, rfl⟩
    go_wp2_with fail
    go_ret
    exact ⟨rfl, Bw1.out⟩
  · rw [decide_eq_false h]
    go_enter Tryz.func67, Tryz.ntmps67
    go_upto_region 1 with fail
    rw [← Hw1.out, ← Hg.out]
    go_wp2_with fail
    refine (HIB.out w1).mono ?_
    rintro e w2 ⟨rfl, rfl⟩
    go_wp2_with fail
    go_ret
    exact ⟨by show Ending.returned (.bool (decide (0 ≤ d))) = _; rw [decide_eq_false (by omega : ¬ (0 : Int) ≤ d)], Bw1.out⟩
theorem fls_all : ∀ i : Fin 6, hasL (cFls.getD i.val []) 65 = cA ((i.val : Int) + 1) ∧ hasL (cFls.getD i.val []) 66 = cB ((i.val : Int) + 1) ∧ hasL (cFls.getD i.val []) 78 = cN ((i.val : Int) + 1) ∧ hasL (cFls.getD i.val []) 86 = cV ((i.val : Int) + 1) := by decide +kernel
theorem fls_off {k : Int} (h : ¬ (1 ≤ k ∧ k ≤ 6)) : cA k = false ∧ cB k = false ∧ cN k = false ∧ cV k = false := by
  unfold cA cB cN cV
  simp
  omega
theorem fls_has (k : Int) : hasL (cFl k) 65 = cA k ∧ hasL (cFl k) 66 = cB k ∧ hasL (cFl k) 78 = cN k ∧ hasL (cFl k) 86 = cV k := by
  by_cases hk : 1 ≤ k ∧ k ≤ 6
  · have := fls_all ⟨k.toNat - 1, by omega⟩
    dsimp only at this
    rw [show ((k.toNat - 1 : Nat) : Int) + 1 = k by omega] at this
    unfold cFl
    rw [if_pos hk]
    exact this
  · obtain ⟨a, b, c, d⟩ := fls_off hk
    unfold cFl
    rw [if_neg hk, a, b, c, d]
    decide +kernel
/-- has, asked of what a kind has. -/
structure HasC (k : Int) (F : Sh) : Prop where
  a : ∀ w, Calls Tryz.prog 67 #[.agg F.cells.toArray, .int .u8 65] w fun e w' => e = .returned (.bool (cA k)) ∧ Below w.heap.size w w'
  b : ∀ w, Calls Tryz.prog 67 #[.agg F.cells.toArray, .int .u8 66] w fun e w' => e = .returned (.bool (cB k)) ∧ Below w.heap.size w w'
  n : ∀ w, Calls Tryz.prog 67 #[.agg F.cells.toArray, .int .u8 78] w fun e w' => e = .returned (.bool (cN k)) ∧ Below w.heap.size w w'
  v : ∀ w, Calls Tryz.prog 67 #[.agg F.cells.toArray, .int .u8 86] w fun e w' => e = .returned (.bool (cV k)) ∧ Below w.heap.size w w'
theorem hasC (k : Int) : HasC k (shK k) := by
  obtain ⟨a, b, d, e⟩ := fls_has k
  refine ⟨fun w => ?_, fun w => ?_, fun w => ?_, fun w => ?_⟩
  · rw [← a]; exact chas_any (shK k) 65 w
  · rw [← b]; exact chas_any (shK k) 66 w
  · rw [← d]; exact chas_any (shK k) 78 w
  · rw [← e]; exact chas_any (shK k) 86 w
theorem sh_field0 (M F : ByteArray) (E : Int) (w : World) : (Instr.field 87 (.agg #[.string M, .string F, .int .i64 E]) 0).run Tryz.prog w = .ok (.string M) w := by kernel_rfl
theorem sh_field2 (M F : ByteArray) (E : Int) (w : World) : (Instr.field 87 (.agg #[.string M, .string F, .int .i64 E]) 2).run Tryz.prog w = .ok (.int .i64 E) w := by kernel_rfl
set_option maxRecDepth 100000 in
theorem cname_any (k : Int) (hk : -9223372036854775808 ≤ k ∧ k ≤ 9223372036854775807) (w : World) (hc : CB w.heap.size w) : Calls Tryz.prog 39 #[.int .i64 k] w fun e w' => e = .returned (.string (str (cNm k))) ∧ Below w.heap.size w w' := by
  have AB := Lib.hid (cabout_any k hk w hc)
  obtain ⟨M, hM⟩ : ∃ M, M = str (cNm k) := ⟨_, rfl⟩
  obtain ⟨F, hF⟩ : ∃ F, F = str (cFl k) := ⟨_, rfl⟩
  obtain ⟨E, hE⟩ : ∃ E, E = eK k := ⟨_, rfl⟩
  rw [show (shK k).cells.toArray = #[.string M, .string F, .int .i64 E] by rw [hM, hF, hE]; rfl] at AB
  rw [← hM]
  clear hM hF hE hc
  go_enter Tryz.func39, Tryz.ntmps39
  go_wp2_with fail
  refine AB.out.mono ?_
  rintro e w2 ⟨rfl, hb⟩
  have hf := sh_field0 M F E w2
  have HB := Lib.hid hb
  clear hb
  go_wp2_with fail
  go_ret
  exact ⟨rfl, HB.out⟩
/-- Is it written of a command? -/
def eMd (k : Int) : Bool := k == 11 || k == 13 || k == 7 || k == 16 || k == 17 || k == 21
end Go.Proofs.YtnfobnnbeefeeaaGreatDoor.Wi
/- Check, Made. -/
namespace Go.Proofs.YtnfobnnbeefeeaaGreatDoor.Wi
open Go Go.RowKit
set_option linter.unusedVariables false
set_option linter.unusedSimpArgs false
set_option maxHeartbeats 16000000 in
set_option maxRecDepth 100000 in
theorem ccheck_any (x : Cm) (N : Nat) (w : World) (hx : x.At N w) (hN : N ≤ w.heap.size) (he : CB w.heap.size w) : Calls Tryz.prog 20 #[.agg x.cells.toArray] w fun e w' => e = .returned (.int .i64 x.vE) ∧ Below w.heap.size w w' := by
  obtain ⟨R, hR⟩ : ∃ R, R = x.vE := ⟨_, rfl⟩
  rw [← hR]
  unfold Cm.vE Cm.rng at hR
  obtain ⟨w1, hw1⟩ : ∃ bx, bx = w.alloc (.cells x.cells.toArray 42) := ⟨_, rfl⟩
  obtain ⟨g, hg⟩ : ∃ bx, bx = w.heap.size := ⟨_, rfl⟩
  have bw1 : Below w.heap.size w w1 := by rw [hw1]; exact (Below.refl _ _).alloc (Nat.le_refl _) _
  have nw1 : w1.heap[g]? = some (.cells x.cells.toArray 42 (0, 0)) := by rw [hw1, hg]; exact heap_alloc_new _ _
  have Kw1 := Lib.hid (rowC nw1)
  have Cw1 := Lib.hid (cmC nw1)
  have Hw1 := Lib.hid hw1
  have Hg := Lib.hid hg
  have Bw1 := Lib.hid bw1
  have Nw1 := Lib.hid nw1
  clear hw1 hg bw1 nw1
  have HX1 := Lib.hid (hx.below (Bw1.out.mono hN))
  have c0 := Cw1.out.c0
  have KN := Lib.hid (cknown_any x.kind w1)
  have AB := Lib.hid (cabout_any x.kind hx.kind w1 ((he.on Bw1.out).base Bw1.out.size))
  have HK := hasC x.kind
  have zn := str_sizeX x.name
  have en := str_empty x.name
  have VC := Lib.hid (fun W (h : Below w1.heap.size w1 W) => vcheck_any x.val N W (HX1.out.val.below (h.mono (Nat.le_trans hN Bw1.out.size))) (Nat.le_trans hN (Nat.le_trans Bw1.out.size h.size)))
  have AA := Lib.hid (fun (c : Bool) W => callowed_any x.a c W)
  have AL := Lib.hid (fun (c : Bool) W => callowed_any x.b c W)
  obtain ⟨k, hk⟩ : ∃ k, k = x.kind := ⟨_, rfl⟩
  obtain ⟨F, hF⟩ : ∃ F, F = shK x.kind := ⟨_, rfl⟩
  obtain ⟨S, hS⟩ : ∃ S, S = str x.name := ⟨_, rfl⟩
  obtain ⟨kn, hkn⟩ : ∃ kn, kn = cKn x.kind := ⟨_, rfl⟩
  obtain ⟨fa, hfa⟩ : ∃ fn, fn = cA x.kind := ⟨_, rfl⟩
  obtain ⟨fb, hfb⟩ : ∃ fn, fn = cB x.kind := ⟨_, rfl⟩
  obtain ⟨fn, hfn⟩ : ∃ fn, fn = cN x.kind := ⟨_, rfl⟩
  obtain ⟨fv, hfv⟩ : ∃ fv, fv = cV x.kind := ⟨_, rfl⟩
  obtain ⟨t, ht⟩ : ∃ k, k = x.time := ⟨_, rfl⟩
  obtain ⟨a, ha⟩ : ∃ k, k = x.a := ⟨_, rfl⟩
  obtain ⟨b, hb⟩ : ∃ k, k = x.b := ⟨_, rfl⟩
  obtain ⟨L1, hL1⟩ : ∃ L1, L1 = x.name.length := ⟨_, rfl⟩
  obtain ⟨vk, hvk⟩ : ∃ vk, vk = x.val.kd := ⟨_, rfl⟩
  obtain ⟨ve, hve⟩ : ∃ ve, ve = x.val.vE := ⟨_, rfl⟩
  have FA := HK.a
  have FB := HK.b
  have FN := HK.n
  have FV := HK.v
  have KC := Lib.hid (fun W (h : Below w1.heap.size w1 W) => cmC ((h.block g (lt_of_rowK Nw1.out)).trans Nw1.out))
  have d1 := fun W h => (KC.out W h).c1
  have d2 := fun W h => (KC.out W h).c2
  have d3 := fun W h => (KC.out W h).c3
  have d4 := fun W h => (KC.out W h).c4
  have d5 := fun W h => (KC.out W h).c5
  have dv := fun W h => (KC.out W h).cv
  have d0 := fun W h => (KC.out W h).c0
  rw [← hk] at c0 d0
  rw [← hkn, ← hk] at KN
  rw [← hF, ← hk] at AB
  rw [← hF] at FA FB FN FV
  rw [← hfa] at FA
  rw [← hfb] at FB
  rw [← hfn] at FN
  rw [← hfv] at FV
  rw [← hve] at VC
  rw [← ha] at AA d2
  rw [← hb] at AL d3
  rw [← ht] at d1
  rw [← hkn, ← hfa, ← hfb, ← hfn, ← hfv, ← ht, ← ha, ← hb, ← hL1, ← hvk, ← hve] at hR
  rw [← hS, ← hL1] at zn
  rw [← hS] at en d4
  rw [← hvk] at d5
  obtain ⟨p1, hp1⟩ : ∃ p1, p1 = decide (x.name = []) := ⟨_, rfl⟩
  rw [← hp1] at en
  have hR2 : R = if kn = false then 9 else if (decide (0 ≤ t) && decide (t ≤ 4611686018427387903) && eOk a fa && eOk b fb) = false then 1 else if 64 < L1 then 2 else if (p1 = false ∧ fn = false) ∨ (vk ≠ 0 ∧ fv = false) then 8 else ve := by
    rw [hR]
    have e1 : (x.name ≠ []) = (p1 = false) := by rw [hp1]; simp
    simp only [e1]
  have D0 := Lib.hid d0
  have D1 := Lib.hid d1
  have D2 := Lib.hid d2
  have D3 := Lib.hid d3
  have D4 := Lib.hid d4
  have D5 := Lib.hid d5
  have DV := Lib.hid dv
  have HFA := Lib.hid FA
  have HFB := Lib.hid FB
  have HFN := Lib.hid FN
  have HFV := Lib.hid FV
  have HR := Lib.hid hR2
  have ZN := Lib.hid zn
  clear hR hR2 hk hF hS hkn hfa hfb hfn hfv ht ha hb hL1 hvk hve hp1 d0 d1 d2 d3 d4 d5 dv FA FB FN FV HK hx he zn
  go_enter Tryz.func20, Tryz.ntmps20
  go_upto_region 1 with fail
  rw [← Hw1.out, ← Hg.out]
  go_wp2_with fail
  refine KN.out.mono ?_
  rintro e w2 ⟨rfl, hw2⟩
  have hw2' := hw2.symm
  subst hw2'
  clear hw2
  cases kn
  · obtain rfl : R = 9 := by rw [HR.out]; rfl
    go_wp2_with fail
    go_ret
    exact ⟨rfl, Bw1.out⟩
  go_wp2_with fail
  refine AB.out.mono ?_
  rintro e w3 ⟨rfl, hb3⟩
  obtain ⟨w4, hw4⟩ : ∃ bx, bx = w3.alloc (.cells F.cells.toArray 87) := ⟨_, rfl⟩
  obtain ⟨g4, hg4⟩ : ∃ bx, bx = w3.heap.size := ⟨_, rfl⟩
  have bw4 : Below w3.heap.size w3 w4 := by rw [hw4]; exact (Below.refl _ _).alloc (Nat.le_refl _) _
  have nw4 : w4.heap[g4]? = some (.cells F.cells.toArray 87 (0, 0)) := by rw [hw4, hg4]; exact heap_alloc_new _ _
  have Kw4 := Lib.hid (rowS nw4)
  have Hw4 := Lib.hid hw4
  have Hg4 := Lib.hid hg4
  have Bw4 := Lib.hid bw4
  have Nw4 := Lib.hid nw4
  clear hw4 hg4 bw4 nw4
  have B4 := Lib.hid (hb3.trans (Bw4.out.mono hb3.size))
  have KF := Lib.hid (fun (W : World) (h : Below w4.heap.size w4 W) => rowS ((h.block g4 (lt_of_rowK Nw4.out)).trans Nw4.out))
  clear hb3 c0
  have BF := Lib.hid (fun (W : World) (h : Below w4.heap.size w4 W) => B4.out.trans (h.mono B4.out.size))
  have RL := Lib.hid (fun (W : World) (h : Below w4.heap.size w4 W) => Bw1.out.trans ((BF.out W h).mono Bw1.out.size))
  have q1 := D1.out w4 B4.out
  go_upto_region 4 with (with_reducible show wpList _ _ _ _ _ _; refine wpList_store_newW rfl 87 (.tmp 3) (.tmp 10) rfl 87 _ F.cells.toArray rfl rfl (Tryz.shSize' F) (by with_unfolding_all exact Sh.three F) F.cells_one ?_; rw [← Hw4.out, ← Hg4.out])
  by_cases h1 : t < 0
  · obtain rfl : R = 1 := by rw [HR.out]; simp; omega
    go_wp2_with fail
    go_ret
    exact ⟨rfl, RL.out w4 (Below.refl _ _)⟩
  by_cases h2 : 4611686018427387903 < t
  · obtain rfl : R = 1 := by rw [HR.out]; simp; omega
    go_wp2_with fail
    go_ret
    exact ⟨rfl, RL.out w4 (Below.refl _ _)⟩
  have HR2 := Lib.hid (show R = if (eOk a fa && eOk b fb) = false then 1 else if 64 < L1 then 2 else if (p1 = false ∧ fn = false) ∨ (vk ≠ 0 ∧ fv = false) then 8 else ve by
    rw [HR.out, decide_eq_true (show (0 : Int) ≤ t by omega), decide_eq_true (show t ≤ 4611686018427387903 by omega)]; rfl)
  clear HR
  obtain ⟨oa, hoa⟩ : ∃ oa, oa = eOk a fa := ⟨_, rfl⟩
  have CA := Lib.hid (fun W => (AA.out fa W).mono fun e w' h => (show e = .returned (.bool oa) ∧ Below W.heap.size W w' from ⟨by rw [hoa]; exact h.1, by rw [h.2]; exact Below.refl _ _⟩))
  rw [← hoa] at HR2
  clear hoa AA
  obtain ⟨ob, hob⟩ : ∃ ob, ob = eOk b fb := ⟨_, rfl⟩
  have CBb := Lib.hid (fun W => (AL.out fb W).mono fun e w' h => (show e = .returned (.bool ob) ∧ Below W.heap.size W w' from ⟨by rw [hob]; exact h.1, by rw [h.2]; exact Below.refl _ _⟩))
  rw [← hob] at HR2
  clear hob AL
  have Q2 := Lib.hid (fun W h => D2.out W (BF.out W h))
  have Q3 := Lib.hid (fun W h => D3.out W (BF.out W h))
  have G2 := Lib.hid (fun W (_ : Below w4.heap.size w4 W) => CA.out W)
  have G3 := Lib.hid (fun W (_ : Below w4.heap.size w4 W) => CBb.out W)
  have GA := Lib.hid (fun W (_ : Below w4.heap.size w4 W) => HFA.out W)
  have GB1 := Lib.hid (fun W (_ : Below w4.heap.size w4 W) => HFB.out W)
  go_upto_region 6 with fail
  refine wp_region_quiet_in (fun w' => Below w4.heap.size w4 w') (by kernel_rfl) (by kernel_rfl) (below_drewG (Below.refl _ _) 1) ?_
  refine wpQuiet_runG (v := .pointer (some ⟨g, 2, none⟩)) (by kernel_rfl) (fun w' hC => by first | rfl | go_simp) ?_
  simp only [Act.put, List.setIfInBounds_toArray, List.set_cons_zero, List.set_cons_succ, List.getElem_toArray, List.getElem_cons_zero, List.getElem_cons_succ]
  refine wpQuiet_runG (v := .int .i64 a) (by kernel_rfl) (fun w' hC => by have hz := Q2.out w' hC; go_simp) ?_
  simp only [Act.put, List.setIfInBounds_toArray, List.set_cons_zero, List.set_cons_succ, List.getElem_toArray, List.getElem_cons_zero, List.getElem_cons_succ]
  refine wpQuiet_loadG (by kernel_rfl) 87 (.tmp 3) rfl ⟨g4,0,none⟩ rfl F.cells _ (fun w' hC => KF.out w' hC) Tryz.underlying87 rfl (Tryz.shSize F) ?_
  simp only [Act.put, List.setIfInBounds_toArray, List.set_cons_zero, List.set_cons_succ, List.getElem_toArray, List.getElem_cons_zero, List.getElem_cons_succ]
  refine wpQuiet_callG (f := 67) (xs := #[.tmp 20, .const (.int .u8 65)]) #[.agg F.cells.toArray, .int .u8 65] (.bool fa) (by kernel_rfl) rfl Tryz.func67 (by kernel_rfl) (by kernel_rfl) (by simp [Act.eval]) (fun W hW => (GA.out W hW).mono fun e w' h => ⟨h.1, Below.trans hW (h.2.mono hW.size)⟩) ?_
  simp only [Act.put, List.setIfInBounds_toArray, List.set_cons_zero, List.set_cons_succ, List.getElem_toArray, List.getElem_cons_zero, List.getElem_cons_succ]
  refine wpQuiet_callG (f := 66) (xs := #[.tmp 19, .tmp 21]) #[.int .i64 a, .bool fa] (.bool oa) (by kernel_rfl) rfl Tryz.func66 (by kernel_rfl) (by kernel_rfl) (by simp [Act.eval]) (fun W hW => (G2.out W hW).mono fun e w' h => ⟨h.1, Below.trans hW (h.2.mono hW.size)⟩) ?_
  simp only [Act.put, List.setIfInBounds_toArray, List.set_cons_zero, List.set_cons_succ, List.getElem_toArray, List.getElem_cons_zero, List.getElem_cons_succ]
  refine wpQuiet_runG (v := .bool (!oa)) (by kernel_rfl) (fun w' hC => by first | rfl | go_simp) ?_
  simp only [Act.put, List.setIfInBounds_toArray, List.set_cons_zero, List.set_cons_succ, List.getElem_toArray, List.getElem_cons_zero, List.getElem_cons_succ]
  refine wpQuiet_runG (v := .bool (!oa)) (by kernel_rfl) (fun w' hC => by first | rfl | go_simp) ?_
  simp only [Act.put, List.setIfInBounds_toArray, List.set_cons_zero, List.set_cons_succ, List.getElem_toArray, List.getElem_cons_zero, List.getElem_cons_succ]
  refine wpQuiet_nil ?_
  intro w5 h5
  have B5 := Lib.hid h5
  clear h5 q1
  cases oa
  · obtain rfl : R = 1 := by rw [HR2.out]; rfl
    go_wp2_with fail
    go_ret
    exact ⟨rfl, RL.out _ B5.out⟩
  go_upto_region 7 with fail
  refine wp_region_quiet_in (fun w' => Below w4.heap.size w4 w') (by kernel_rfl) (by kernel_rfl) (below_drewG (B5.out) 1) ?_
  refine wpQuiet_runG (v := .pointer (some ⟨g, 3, none⟩)) (by kernel_rfl) (fun w' hC => by first | rfl | go_simp) ?_
  simp only [Act.put, List.setIfInBounds_toArray, List.set_cons_zero, List.set_cons_succ, List.getElem_toArray, List.getElem_cons_zero, List.getElem_cons_succ]
  refine wpQuiet_runG (v := .int .i64 b) (by kernel_rfl) (fun w' hC => by have hz := Q3.out w' hC; go_simp) ?_
  simp only [Act.put, List.setIfInBounds_toArray, List.set_cons_zero, List.set_cons_succ, List.getElem_toArray, List.getElem_cons_zero, List.getElem_cons_succ]
  refine wpQuiet_loadG (by kernel_rfl) 87 (.tmp 3) rfl ⟨g4,0,none⟩ rfl F.cells _ (fun w' hC => KF.out w' hC) Tryz.underlying87 rfl (Tryz.shSize F) ?_
  simp only [Act.put, List.setIfInBounds_toArray, List.set_cons_zero, List.set_cons_succ, List.getElem_toArray, List.getElem_cons_zero, List.getElem_cons_succ]
  refine wpQuiet_callG (f := 67) (xs := #[.tmp 26, .const (.int .u8 66)]) #[.agg F.cells.toArray, .int .u8 66] (.bool fb) (by kernel_rfl) rfl Tryz.func67 (by kernel_rfl) (by kernel_rfl) (by simp [Act.eval]) (fun W hW => (GB1.out W hW).mono fun e w' h => ⟨h.1, Below.trans hW (h.2.mono hW.size)⟩) ?_
  simp only [Act.put, List.setIfInBounds_toArray, List.set_cons_zero, List.set_cons_succ, List.getElem_toArray, List.getElem_cons_zero, List.getElem_cons_succ]
  refine wpQuiet_callG (f := 66) (xs := #[.tmp 25, .tmp 27]) #[.int .i64 b, .bool fb] (.bool ob) (by kernel_rfl) rfl Tryz.func66 (by kernel_rfl) (by kernel_rfl) (by simp [Act.eval]) (fun W hW => (G3.out W hW).mono fun e w' h => ⟨h.1, Below.trans hW (h.2.mono hW.size)⟩) ?_
  simp only [Act.put, List.setIfInBounds_toArray, List.set_cons_zero, List.set_cons_succ, List.getElem_toArray, List.getElem_cons_zero, List.getElem_cons_succ]
  refine wpQuiet_runG (v := .bool (!ob)) (by kernel_rfl) (fun w' hC => by first | rfl | go_simp) ?_
  simp only [Act.put, List.setIfInBounds_toArray, List.set_cons_zero, List.set_cons_succ, List.getElem_toArray, List.getElem_cons_zero, List.getElem_cons_succ]
  refine wpQuiet_runG (v := .bool (!ob)) (by kernel_rfl) (fun w' hC => by first | rfl | go_simp) ?_
  simp only [Act.put, List.setIfInBounds_toArray, List.set_cons_zero, List.set_cons_succ, List.getElem_toArray, List.getElem_cons_zero, List.getElem_cons_succ]
  refine wpQuiet_nil ?_
  intro w7 h7
  have B7 := Lib.hid h7
  clear h7
  cases ob
  · obtain rfl : R = 1 := by rw [HR2.out]; rfl
    go_wp2_with fail
    go_ret
    exact ⟨rfl, RL.out _ B7.out⟩
  have q4 := D4.out w7 (BF.out _ B7.out)
  have zn := ZN.out
  by_cases h3 : 64 < L1
  · obtain rfl : R = 2 := by rw [HR2.out]; simp [h3]
    have h3' : (64 : Int) < (S.size : Int) := by omega
    go_wp2_with fail
    go_ret
    exact ⟨rfl, RL.out _ B7.out⟩
  have h3' : ¬ (64 : Int) < (S.size : Int) := by omega
  obtain ⟨vb, hvb⟩ : ∃ vb, vb = decide (vk = 0) := ⟨_, rfl⟩
  have hv0 : (vk == 0) = vb := by rw [hvb]; rfl
  have hv1 : (vk != 0) = !vb := by rw [← hv0]; rfl
  have HR4 := Lib.hid (show R = if (p1 = false ∧ fn = false) ∨ (vb = false ∧ fv = false) then 8 else ve by rw [HR2.out, hvb]; simp [h3])
  clear HR2 hvb h3 zn
  have VCx := Lib.hid (fun W h => VC.out W (BF.out W h))
  have KV := Lib.hid (fun W h => DV.out W (BF.out W h))
  have CV5 := Lib.hid (fun W h => D5.out W (BF.out W h))
  have CV4 := Lib.hid (fun W h => D4.out W (BF.out W h))
  go_upto_region 11 with fail
  have FINISH : ∀ W, Below w4.heap.size w4 W → (vb = true ∨ fv = true) → R = ve → Calls Tryz.prog 68 #[.agg x.val.cells.toArray] W fun e w' => e = .returned (.int .i64 R) ∧ Below w.heap.size w w' := fun W h _ hr => (VCx.out W h).mono fun e w' h2 => ⟨by rw [hr]; exact h2.1, (RL.out W h).trans (h2.2.mono (RL.out W h).size)⟩
  have FI := Lib.hid FINISH
  clear FINISH
  go_cut [35] (fun s wx => s = .bool (!p1 && !fn) ∧ Below w4.heap.size w4 wx)
  case first =>
    have k7 := Lib.hid (KF.out w7 B7.out)
    cases p1
    · go_wp2_with (first | (with_reducible show wpList _ _ _ _ _ _; refine wpList_loadWanted (by with_unfolding_all rfl) 87 (.tmp 3) rfl ⟨g4,0,none⟩ (by with_unfolding_all rfl) F.cells _ k7.out Tryz.underlying87 rfl (Tryz.shSize F) ?_))
      refine (HFN.out _).mono ?_
      rintro e wx ⟨rfl, hbx⟩
      have BX := Lib.hid (B7.out.trans (hbx.mono B7.out.size))
      clear hbx
      go_wp2_with fail
      go_meet
      all_goals exact ⟨rfl, BX.out⟩
    · go_wp2_with fail
      go_meet
      all_goals exact ⟨rfl, B7.out⟩
  case rest =>
    obtain ⟨w9, rfl⟩ : ∃ wd : World, wd = wc := ⟨_, rfl⟩
    obtain ⟨rfl, hb9⟩ := hcut
    have B9 := Lib.hid hb9
    clear hb9 q4 en
    obtain ⟨c1, hc1⟩ : ∃ c, c = (!p1 && !fn) := ⟨_, rfl⟩
    rw [← hc1]
    have HC1 := Lib.hid hc1
    clear hc1
    cases c1
    case true =>
      obtain rfl : R = 8 := by
        rw [HR4.out]
        have h := HC1.out
        cases p1 <;> cases fn <;> simp at h ⊢
      go_wp2_with fail
      go_ret
      exact ⟨rfl, RL.out _ B9.out⟩
    have q5 := CV5.out w9 B9.out
    have k9 := Lib.hid (KF.out w9 B9.out)
    go_upto_region 12 with fail
    go_cut [35] (fun s wx => s = .bool (!vb && !fv) ∧ Below w4.heap.size w4 wx)
    case first =>
      cases vb
      · have hv2 : (vk != 0) = true := hv1
        go_wp2_with (first | (with_reducible show wpList _ _ _ _ _ _; refine wpList_loadWanted (by with_unfolding_all rfl) 87 (.tmp 3) rfl ⟨g4,0,none⟩ (by with_unfolding_all rfl) F.cells _ k9.out Tryz.underlying87 rfl (Tryz.shSize F) ?_))
        refine (HFV.out _).mono ?_
        rintro e wx ⟨rfl, hbx⟩
        have BX := Lib.hid (B9.out.trans (hbx.mono B9.out.size))
        clear hbx
        go_wp2_with fail
        go_meet
        all_goals exact ⟨rfl, BX.out⟩
      · have hv2 : (vk != 0) = false := hv1
        go_wp2_with fail
        go_meet
        all_goals exact ⟨rfl, B9.out⟩
    case rest =>
      obtain ⟨wA, rfl⟩ : ∃ wd : World, wd = wc := ⟨_, rfl⟩
      obtain ⟨rfl, hbA⟩ := hcut
      have BA := Lib.hid hbA
      clear hbA q5 k9 hv0 hv1
      obtain ⟨c2, hc2⟩ : ∃ c, c = (!vb && !fv) := ⟨_, rfl⟩
      rw [← hc2]
      have HC2 := Lib.hid hc2
      clear hc2
      cases c2
      case true =>
        obtain rfl : R = 8 := by
          rw [HR4.out]
          have h := HC2.out
          cases vb <;> cases fv <;> simp at h ⊢
        go_wp2_with fail
        go_ret
        exact ⟨rfl, RL.out _ BA.out⟩
      have hve : R = ve := by
        rw [HR4.out]
        have h1 := HC1.out
        have h2 := HC2.out
        cases p1 <;> cases fn <;> cases vb <;> cases fv <;> simp at h1 h2 ⊢
      have VV := Lib.hid (FI.out wA BA.out (by have h2 := HC2.out; cases vb <;> cases fv <;> simp at h2 ⊢) hve)
      have KVA := Lib.hid (KV.out wA BA.out)
      clear hve
      go_wp2_with (with_reducible show wpList _ _ _ _ _ _; refine wpList_load_allW rfl 26 (.tmp 53) rfl ⟨g,5,none⟩ rfl x.val.cells _ KVA.out Tryz.underlying26 rfl (Tryz.valSize x.val) ?_)
      refine VV.out.mono ?_
      rintro e wz ⟨rfl, hbz⟩
      have RZ := Lib.hid hbz
      clear hbz
      go_wp2_with fail
      go_ret
      exact ⟨rfl, RZ.out⟩
end Go.Proofs.YtnfobnnbeefeeaaGreatDoor.Wi
/- Same, All, Made. -/
namespace Go.Proofs.YtnfobnnbeefeeaaGreatDoor.Wi
open Go Go.RowKit
set_option linter.unusedVariables false
set_option linter.unusedSimpArgs false
set_option maxHeartbeats 16000000 in
set_option maxRecDepth 100000 in
theorem csame_any (x y : Cm) (hd : x.val.dpr 65536 = false) (N : Nat) (w : World) (hx : x.At N w) (hy : y.At N w) (hN : N ≤ w.heap.size) : Calls Tryz.prog 27 #[.agg x.cells.toArray, .agg y.cells.toArray] w fun e w' => e = .returned (.bool (x.same y)) ∧ Below w.heap.size w w' := by
  obtain ⟨R, hR⟩ : ∃ R, R = x.same y := ⟨_, rfl⟩
  rw [← hR]
  unfold Cm.same at hR
  obtain ⟨w1, hw1⟩ : ∃ bx, bx = w.alloc (.cells x.cells.toArray 42) := ⟨_, rfl⟩
  obtain ⟨g, hg⟩ : ∃ bx, bx = w.heap.size := ⟨_, rfl⟩
  have bw1 : Below w.heap.size w w1 := by rw [hw1]; exact (Below.refl _ _).alloc (Nat.le_refl _) _
  have nw1 : w1.heap[g]? = some (.cells x.cells.toArray 42 (0, 0)) := by rw [hw1, hg]; exact heap_alloc_new _ _
  have Kw1 := Lib.hid (rowC nw1)
  have Cw1 := Lib.hid (cmC nw1)
  have Hw1 := Lib.hid hw1
  have Hg := Lib.hid hg
  have Bw1 := Lib.hid bw1
  have Nw1 := Lib.hid nw1
  clear hw1 hg bw1 nw1
  obtain ⟨w2, hw2⟩ : ∃ bx, bx = w1.alloc (.cells y.cells.toArray 42) := ⟨_, rfl⟩
  obtain ⟨g2, hg2⟩ : ∃ bx, bx = w1.heap.size := ⟨_, rfl⟩
  have bw2 : Below w1.heap.size w1 w2 := by rw [hw2]; exact (Below.refl _ _).alloc (Nat.le_refl _) _
  have nw2 : w2.heap[g2]? = some (.cells y.cells.toArray 42 (0, 0)) := by rw [hw2, hg2]; exact heap_alloc_new _ _
  have Kw2 := Lib.hid (rowC nw2)
  have Cw2 := Lib.hid (cmC nw2)
  have Hw2 := Lib.hid hw2
  have Hg2 := Lib.hid hg2
  have Bw2 := Lib.hid bw2
  have Nw2 := Lib.hid nw2
  clear hw2 hg2 bw2 nw2
  have B2 := Lib.hid (Bw1.out.trans (Bw2.out.mono Bw1.out.size))
  have n12 := (Bw2.out.block g (lt_of_rowK Nw1.out)).trans Nw1.out
  have Cx := Lib.hid (cmC n12)
  have VS := Lib.hid (vsame_any x.val y.val hd N w2 (hx.val.below (B2.out.mono hN)) (hy.val.below (B2.out.mono hN)) (Nat.le_trans hN B2.out.size))
  obtain ⟨vc, hvc⟩ : ∃ vc, vc = decide (x.val.cmp y.val = 0) := ⟨_, rfl⟩
  rw [← hvc] at VS hR
  clear n12 hvc hd hx hy
  have HG2b := Lib.hid (show g2 = w.heap.size + 1 by rw [Hg2.out, Hw1.out]; simp)
  have KX := Lib.hid Cx.out.cv
  have KY := Lib.hid Cw2.out.cv
  have c0 := Cx.out.c0
  have d0 := Cw2.out.c0
  obtain ⟨p0, hp0⟩ : ∃ p, p = x.kind := ⟨_, rfl⟩
  obtain ⟨q0, hq0⟩ : ∃ p, p = y.kind := ⟨_, rfl⟩
  rw [← hp0] at c0 hR
  rw [← hq0] at d0 hR
  clear hp0 hq0
  have c1 := Cx.out.c1
  have d1 := Cw2.out.c1
  obtain ⟨p1, hp1⟩ : ∃ p, p = x.time := ⟨_, rfl⟩
  obtain ⟨q1, hq1⟩ : ∃ p, p = y.time := ⟨_, rfl⟩
  rw [← hp1] at c1 hR
  rw [← hq1] at d1 hR
  clear hp1 hq1
  have c2 := Cx.out.c2
  have d2 := Cw2.out.c2
  obtain ⟨p2, hp2⟩ : ∃ p, p = x.a := ⟨_, rfl⟩
  obtain ⟨q2, hq2⟩ : ∃ p, p = y.a := ⟨_, rfl⟩
  rw [← hp2] at c2 hR
  rw [← hq2] at d2 hR
  clear hp2 hq2
  have c3 := Cx.out.c3
  have d3 := Cw2.out.c3
  obtain ⟨p3, hp3⟩ : ∃ p, p = x.b := ⟨_, rfl⟩
  obtain ⟨q3, hq3⟩ : ∃ p, p = y.b := ⟨_, rfl⟩
  rw [← hp3] at c3 hR
  rw [← hq3] at d3 hR
  clear hp3 hq3
  have c4 := Cx.out.c4
  have d4 := Cw2.out.c4
  have s4 := str_eqE x.name y.name
  obtain ⟨p4, hp4⟩ : ∃ p, p = str x.name := ⟨_, rfl⟩
  obtain ⟨q4, hq4⟩ : ∃ p, p = str y.name := ⟨_, rfl⟩
  obtain ⟨t4, ht4⟩ : ∃ p, p = (x.name == y.name) := ⟨_, rfl⟩
  rw [← hp4] at c4 s4
  rw [← hq4] at d4 s4
  rw [← ht4] at s4 hR
  clear hp4 hq4 ht4
  go_enter Tryz.func27, Tryz.ntmps27
  go_upto_region 1 with fail
  rw [← Hw1.out, ← HG2b.out, ← Hg.out, ← Hw2.out]
  by_cases h0 : (p0 == q0) = true
  case neg =>
    have h0' : (p0 == q0) = false := by simpa using h0
    obtain rfl : R = false := by rw [hR]; simp [h0']
    clear hR h0
    go_wp2_with fail
    go_ret
    exact ⟨rfl, B2.out⟩
  by_cases h1 : (p1 == q1) = true
  case neg =>
    have h1' : (p1 == q1) = false := by simpa using h1
    obtain rfl : R = false := by rw [hR]; simp [h0, h1']
    clear hR h1
    go_wp2_with fail
    go_ret
    exact ⟨rfl, B2.out⟩
  by_cases h2 : (p2 == q2) = true
  case neg =>
    have h2' : (p2 == q2) = false := by simpa using h2
    obtain rfl : R = false := by rw [hR]; simp [h0, h1, h2']
    clear hR h2
    go_wp2_with fail
    go_ret
    exact ⟨rfl, B2.out⟩
  by_cases h3 : (p3 == q3) = true
  case neg =>
    have h3' : (p3 == q3) = false := by simpa using h3
    obtain rfl : R = false := by rw [hR]; simp [h0, h1, h2, h3']
    clear hR h3
    go_wp2_with fail
    go_ret
    exact ⟨rfl, B2.out⟩
  cases t4
  · obtain rfl : R = false := by rw [hR]; simp
    clear hR
    go_wp2_with fail
    go_ret
    exact ⟨rfl, B2.out⟩
  obtain rfl : R = vc := by rw [hR]; simp [h0, h1, h2, h3]
  clear hR
  go_wp2_with (first | (with_reducible show wpList _ _ _ _ _ _; refine wpList_loadWanted (by with_unfolding_all rfl) 26 (.tmp 39) rfl ⟨g,5,none⟩ (by with_unfolding_all rfl) x.val.cells _ KX.out Tryz.underlying26 rfl (Tryz.valSize x.val) ?_) | (with_reducible show wpList _ _ _ _ _ _; refine wpList_loadWanted (by with_unfolding_all rfl) 26 (.tmp 41) rfl ⟨g2,5,none⟩ (by with_unfolding_all rfl) y.val.cells _ KY.out Tryz.underlying26 rfl (Tryz.valSize y.val) ?_))
  refine VS.out.mono ?_
  rintro e w3 ⟨rfl, hb3⟩
  have RL := Lib.hid (B2.out.trans (hb3.mono B2.out.size))
  clear hb3
  go_wp2_with fail
  go_ret
  exact ⟨rfl, RL.out⟩
def caRel (w : World) (R : Int) (l : List Cm) (i : Value) (wr : World) : Prop := ∃ j : Nat, i = .int .i64 (j : Int) ∧ j ≤ l.length ∧ R = allC (l.drop j) ∧ Below w.heap.size w wr
set_option maxHeartbeats 8000000 in
set_option maxRecDepth 100000 in
theorem call_any (ao : Option Addr) (c : Nat) (l : List Cm) (N : Nat) (w : World) (hv : CL N w ao l) (hN : N ≤ w.heap.size) (he : CB w.heap.size w) : Calls Tryz.prog 24 #[.slice ao l.length c] w fun e w' => e = .returned (.int .i64 (allE l)) ∧ Below w.heap.size w w' := by
  obtain ⟨R, hR⟩ : ∃ R, R = allE l := ⟨_, rfl⟩
  rw [← hR]
  unfold allE at hR
  have hll := hv.len
  have HV := Lib.hid hv
  have HE := Lib.hid he
  have HN := Lib.hid hN
  clear hv he hN
  by_cases h256 : 256 < l.length
  · rw [if_pos h256] at hR
    subst hR
    have q1 : (256 : Int) < (l.length : Int) := by omega
    go_enter Tryz.func24, Tryz.ntmps24
    go_wp2_with fail
    go_ret
    exact ⟨rfl, Below.refl _ _⟩
  rw [if_neg h256] at hR
  have q1 : ¬ (256 : Int) < (l.length : Int) := by omega
  have R0 := Lib.hid (show caRel w R l (.int .i64 0) w from ⟨0, rfl, Nat.zero_le _, hR, Below.refl _ _⟩)
  clear hR h256
  go_enter Tryz.func24, Tryz.ntmps24
  go_wp2_with fail
  go_loopw [11] (fun i wr => caRel w R l i wr) (fun i _ => l.length - (intOf i).toNat)
  case atStart => exact R0.out
  case round =>
    obtain ⟨wq, rfl⟩ : ∃ wq : World, wq = wr := ⟨_, rfl⟩
    obtain ⟨j, rfl, hj, hr, hbq⟩ := hrel
    have q0 : (0 : Int) ≤ (j : Int) := by omega
    have BQ := Lib.hid hbq
    have HR := Lib.hid hr
    clear hbq hr R0
    by_cases hjl : j < l.length
    · have q2 : (j : Int) < (l.length : Int) := by omega
      obtain ⟨x, hx⟩ : ∃ x, l[j]? = some x := ⟨_, List.getElem?_eq_getElem hjl⟩
      obtain ⟨hxv, ad, rfl, had, hxc⟩ := HV.out.elem hx
      have nb : ∀ k, k < N → wq.heap[k]? = w.heap[k]? := fun k hk => BQ.out.block k (Nat.lt_of_lt_of_le hk HN.out)
      have KX := Lib.hid (hxc wq nb)
      have hdr : l.drop j = x :: l.drop (j + 1) := by
        rw [List.drop_eq_getElem_cons hjl]
        congr 1
        have := List.getElem?_eq_getElem hjl
        rw [hx] at this
        exact (Option.some.inj this).symm
      obtain ⟨w5, hw5⟩ : ∃ bx, bx = wq.alloc (.cells x.cells.toArray 42) := ⟨_, rfl⟩
      obtain ⟨g5, hg5⟩ : ∃ bx, bx = wq.heap.size := ⟨_, rfl⟩
      have bw5 : Below wq.heap.size wq w5 := by rw [hw5]; exact (Below.refl _ _).alloc (Nat.le_refl _) _
      have nw5 : w5.heap[g5]? = some (.cells x.cells.toArray 42 (0, 0)) := by rw [hw5, hg5]; exact heap_alloc_new _ _
      have Kw5 := Lib.hid (rowC nw5)
      have Cw5 := Lib.hid (cmC nw5)
      have Hw5 := Lib.hid hw5
      have Hg5 := Lib.hid hg5
      have Bw5 := Lib.hid bw5
      have Nw5 := Lib.hid nw5
      clear hw5 hg5 bw5 nw5
      have B5 := Lib.hid (BQ.out.trans (Bw5.out.mono BQ.out.size))
      have CK := Lib.hid (ccheck_any x N w5 (hxv.below (B5.out.mono HN.out)) (Nat.le_trans HN.out B5.out.size) ((HE.out.on B5.out).base B5.out.size))
      obtain ⟨ve, hve⟩ : ∃ ve, ve = x.vE := ⟨_, rfl⟩
      obtain ⟨en, hen⟩ : ∃ en, en = x.ends := ⟨_, rfl⟩
      have EN := Lib.hid (fun W => cends_any x W)
      rw [← hve] at CK
      rw [← hen] at EN
      have hr2 : R = if ve ≠ 0 then ve else if en = true ∧ j + 1 < l.length then 7 else allC (l.drop (j + 1)) := by
        rw [HR.out, hdr, allC, ← hve, ← hen]
        have e1 : (l.drop (j + 1) ≠ []) = (j + 1 < l.length) := by
          apply propext
          rw [Ne, List.drop_eq_nil_iff]
          omega
        simp only [e1]
      have HR2 := Lib.hid hr2
      have RLq := Lib.hid (fun W (h : Below w5.heap.size w5 W) => B5.out.trans (h.mono B5.out.size))
      clear hr2 hve hen hdr hxv hxc had hx nb HR
      go_wp2_with (first
        | (with_reducible show wpList _ _ _ _ _ _; refine wpList_load_allW rfl 42 (.tmp 14) rfl _ rfl x.cells _ KX.out Tryz.underlying42 rfl (Tryz.cmSize x) ?_)
        | (with_reducible show wpList _ _ _ _ _ _; refine wpList_store_newW rfl 42 (.tmp 4) (.tmp 15) rfl 42 _ x.cells.toArray rfl rfl (Tryz.cmSize' x) (by with_unfolding_all exact Cm.nine x) x.cells_one ?_; rw [← Hw5.out, ← Hg5.out])
        | (with_reducible show wpList _ _ _ _ _ _; refine wpList_load_allW rfl 42 (.tmp 4) rfl ⟨g5,0,none⟩ rfl x.cells _ Kw5.out Tryz.underlying42 rfl (Tryz.cmSize x) ?_))
      refine CK.out.mono ?_
      rintro e w6 ⟨rfl, hb6⟩
      have B6 := Lib.hid hb6
      clear hb6
      by_cases hz : ve = 0
      case neg =>
        have hz1 : (ve != 0) = true := by simpa using hz
        obtain rfl : R = ve := by rw [HR2.out, if_pos hz]
        go_wp2_with fail
        go_ret
        exact ⟨rfl, RLq.out _ B6.out⟩
      have HR3 := Lib.hid (show R = if en = true ∧ j + 1 < l.length then 7 else allC (l.drop (j + 1)) by rw [HR2.out, if_neg (by simpa using hz)])
      subst hz
      clear HR2
      have K6 := Lib.hid (rowCB Nw5.out B6.out)
      go_wp2_with (first | (with_reducible show wpList _ _ _ _ _ _; refine wpList_load_allW rfl 42 (.tmp 4) rfl ⟨g5,0,none⟩ rfl x.cells _ K6.out Tryz.underlying42 rfl (Tryz.cmSize x) ?_))
      refine (EN.out _).mono ?_
      rintro e w7 ⟨rfl, hb7⟩
      have B7 := Lib.hid (B6.out.trans (hb7.mono B6.out.size))
      clear hb7 K6
      by_cases hen : en = true ∧ j + 1 < l.length
      · obtain ⟨he1, he2⟩ := hen
        subst he1
        have q3 : (j : Int) < (l.length : Int) - 1 := by omega
        obtain rfl : R = 7 := by rw [HR3.out, if_pos ⟨rfl, he2⟩]
        go_wp2_with fail
        go_ret
        exact ⟨rfl, RLq.out _ B7.out⟩
      · have RL := Lib.hid (show caRel w R l (.int .i64 ((j + 1 : Nat) : Int)) w7 from ⟨j + 1, rfl, hjl, by rw [HR3.out, if_neg hen], RLq.out _ B7.out⟩)
        cases en
        · go_wp2_with fail
          exact ⟨RL.out, by simp [intOf]; omega⟩
        · have q3 : ¬ (j : Int) < (l.length : Int) - 1 := by
            intro h
            exact hen ⟨rfl, by omega⟩
          go_wp2_with fail
          exact ⟨RL.out, by simp [intOf]; omega⟩
    · have q2 : ¬ (j : Int) < (l.length : Int) := by omega
      obtain rfl : R = 0 := by rw [HR.out, List.drop_eq_nil_of_le (by omega)]; rfl
      go_wp2_with fail
      go_ret
      exact ⟨rfl, BQ.out⟩
end Go.Proofs.YtnfobnnbeefeeaaGreatDoor.Wi
