/- The queue's small calls: Len, Has. -/
import Derived.Test.YtjjmjbemflhlbaaN4
import Derived.Test.YtjjmjbemflhlbaaN3
import Derived.Test.YtjjmjbemflhlbaaCq
import Derived.Test.YtjjmjbemflhlbaaUl
namespace Go.Proofs.Ytjjmjbemflhlbaa.Qu
open Go Go.RowKit Go.Proofs.Ytjjmjbemflhlbaa
open Go.Proofs.Ytjjmjbemflhlbaa.Hp (K3 kv KLit wf3 i64wf kv_inj)
open Go.Proofs.Ytjjmjbemflhlbaa.Dk (Frm below_drewN)
set_option linter.unusedVariables false
set_option linter.unusedSimpArgs false
/-- A task's cells. -/
def kcs (k : K3) : List Value := [.int .i64 k.1, .int .i64 k.2.1, .int .i64 k.2.2]
theorem kv_eq (k : K3) : kv k = .agg (kcs k).toArray := rfl
theorem tkSize (k : K3) : (Try.prog.info? 32).map (·.size) = some (kcs k).length := by kernel_rfl
/-- A task that came in lies in a block of its own. -/
theorem box_task (w : World) (k : K3) : ∀ j v, (kcs k)[j]? = some v → (w.alloc (.cells (kcs k).toArray 32)).cell? ((⟨w.heap.size, 0, none⟩ : Addr).add j) = some v := fun j v hj => by
  rw [Addr.add_mid, Nat.zero_add, cell_of_row _ _ j _ _ _ (heap_alloc_new w _)]
  simpa using hj
variable {w : World} {b o : Nat} {R : Array Value} {ty : TypeId} {mo : Option Nat} {L : List Lk}
theorem qlen_any (h : QAt w b o R ty mo L) : Calls Try.prog 20 #[.pointer (some ⟨b, o, none⟩)] w fun e w' => e = .returned (.int .i64 (L.length : Int)) ∧ w' = w := by
  obtain ⟨c0, c1, c2, f0, f1, f2⟩ := h.c.row.cells
  have LEN := h.map.len qu_keyP
  clear h
  go_enter Try.func20, Try.ntmps20
  go_wp2_with fail
  go_ret
  exact ⟨rfl, rfl⟩
theorem qhas_any (h : QAt w b o R ty mo L) (k : K3) (hk : wf3 k) : Calls Try.prog 22 #[.pointer (some ⟨b, o, none⟩), kv k] w fun e w' => e = .returned (.bool (adOf L k).isSome) ∧ Below w.heap.size w w' := by
  obtain ⟨w1, hw1⟩ : ∃ x, x = w.alloc (.cells (kcs k).toArray 32) := ⟨_, rfl⟩
  obtain ⟨g, hg⟩ : ∃ g, g = w.heap.size := ⟨_, rfl⟩
  have b1 : Below w.heap.size w w1 := by rw [hw1]; exact (Below.refl _ _).alloc (Nat.le_refl _) _
  have KT : ∀ j v, (kcs k)[j]? = some v → w1.cell? ((⟨g, 0, none⟩ : Addr).add j) = some v := by rw [hw1, hg]; exact box_task w k
  obtain ⟨c0, c1, c2, f0, f1, f2⟩ := (h.below b1).c.row.cells
  have LK := fun n => ((h.below b1).below (below_drewN (Below.refl _ _) n)).map.look qu_keyP hk
  obtain ⟨B, hB⟩ : ∃ B, B = (adOf L k).isSome := ⟨_, rfl⟩
  obtain ⟨q, hq⟩ : ∃ q, q = ptr (adOf L k) := ⟨_, rfl⟩
  rw [← hB] at LK ⊢
  rw [← hq] at LK
  have HW := Lib.hid hw1
  have HG := Lib.hid hg
  have B1 := Lib.hid b1
  have LKK : ∀ n, (Instr.lookup 27 (.map mo) (.agg (kcs k).toArray) true).run Try.prog (w1.drewN n) = .ok (.tuple #[q, .bool B]) (w1.drewN n) := fun n => by rw [← kv_eq]; exact LK n
  clear h hw1 hg b1 hB hq f0 f1 f2 LK
  rw [kv_eq]
  go_enter Try.func22, Try.ntmps22
  go_upto_region 1 with fail
  rw [← HW.out, ← HG.out]
  refine wp_region_quiet_lit (by kernel_rfl) (by kernel_rfl) ?_
  repeat (go_big_quiet_step (fail))
  refine wpQuiet_loadG (by kernel_rfl) 32 (.tmp 3) rfl ⟨g, 0, none⟩ rfl (kcs k) _ (fun w' hC => by obtain ⟨nl, rfl⟩ := hC; exact KT) Try.underlying32 rfl (tkSize k) ?_
  simp only [Act.put, List.setIfInBounds_toArray, List.set_cons_zero, List.set_cons_succ, List.getElem_toArray, List.getElem_cons_zero, List.getElem_cons_succ]
  repeat (go_big_quiet_step (fail))
  refine wpQuiet_nil ?_
  intro _ hw'
  obtain ⟨nq, hw''⟩ := hw'
  subst hw''
  go_wp2_with fail
  go_ret
  exact ⟨rfl, below_drewN B1.out nq⟩
theorem qsince_any (h : QAt w b o R ty mo L) (k : K3) (hk : wf3 k) : Calls Try.prog 21 #[.pointer (some ⟨b, o, none⟩), kv k] w fun e w' =>
    (adOf L k = none ∧ e = .returned (.tuple #[.int .i64 0, .bool false]) ∨ ∃ x ∈ L, x.key = k ∧ e = .returned (.tuple #[.int .i64 x.since, .bool true])) ∧ Below w.heap.size w w' := by
  obtain ⟨w1, hw1⟩ : ∃ x, x = w.alloc (.cells (kcs k).toArray 32) := ⟨_, rfl⟩
  obtain ⟨g, hg⟩ : ∃ g, g = w.heap.size := ⟨_, rfl⟩
  have b1 : Below w.heap.size w w1 := by rw [hw1]; exact (Below.refl _ _).alloc (Nat.le_refl _) _
  have KT : ∀ j v, (kcs k)[j]? = some v → w1.cell? ((⟨g, 0, none⟩ : Addr).add j) = some v := by rw [hw1, hg]; exact box_task w k
  obtain ⟨c0, c1, c2, f0, f1, f2⟩ := (h.below b1).c.row.cells
  have LK := fun n => ((h.below b1).below (below_drewN (Below.refl _ _) n)).map.look qu_keyP hk
  have H1 := Lib.hid (h.below b1)
  have HW := Lib.hid hw1
  have HG := Lib.hid hg
  have B1 := Lib.hid b1
  clear h hw1 hg b1 f0 f1 f2
  cases hA : adOf L k with
  | none =>
    rw [hA] at LK
    have LKK : ∀ n, (Instr.lookup 27 (.map mo) (.agg (kcs k).toArray) true).run Try.prog (w1.drewN n) = .ok (.tuple #[.pointer none, .bool false]) (w1.drewN n) := fun n => by rw [← kv_eq]; exact LK n
    clear LK hA
    rw [kv_eq]
    go_enter Try.func21, Try.ntmps21
    go_upto_region 1 with fail
    rw [← HW.out, ← HG.out]
    refine wp_region_quiet_lit (by kernel_rfl) (by kernel_rfl) ?_
    repeat (go_big_quiet_step (fail))
    refine wpQuiet_loadG (by kernel_rfl) 32 (.tmp 3) rfl ⟨g, 0, none⟩ rfl (kcs k) _ (fun w' hC => by obtain ⟨nl, rfl⟩ := hC; exact KT) Try.underlying32 rfl (tkSize k) ?_
    simp only [Act.put, List.setIfInBounds_toArray, List.set_cons_zero, List.set_cons_succ, List.getElem_toArray, List.getElem_cons_zero, List.getElem_cons_succ]
    repeat (go_big_quiet_step (fail))
    refine wpQuiet_nil ?_
    intro _ hw'
    obtain ⟨nq, hw''⟩ := hw'
    subst hw''
    go_wp2_with fail
    go_ret2
    exact ⟨.inl ⟨trivial, rfl⟩, below_drewN B1.out nq⟩
  | some a =>
    rw [hA] at LK
    obtain ⟨X, x, Y, hL, hxk, hxa⟩ := adOf_some hA
    have LKK : ∀ n, (Instr.lookup 27 (.map mo) (.agg (kcs k).toArray) true).run Try.prog (w1.drewN n) = .ok (.tuple #[.pointer (some ⟨a, 0, none⟩), .bool true]) (w1.drewN n) := fun n => by rw [← kv_eq]; exact LK n
    have cs : w1.cell? ⟨a, 3, none⟩ = some (.int .i64 x.since) := by
      have hc := H1.out.c.chain
      rw [hL, chain_app] at hc
      rw [← hxa, cell_of_row w1 x.ad 3 _ _ _ hc.2.1]; rfl
    have hmem : x ∈ L := by rw [hL]; simp
    have HX := Lib.hid (And.intro hmem hxk)
    clear LK hA hmem hxk hL hxa
    rw [kv_eq]
    go_enter Try.func21, Try.ntmps21
    go_upto_region 1 with fail
    rw [← HW.out, ← HG.out]
    refine wp_region_quiet_lit (by kernel_rfl) (by kernel_rfl) ?_
    repeat (go_big_quiet_step (fail))
    refine wpQuiet_loadG (by kernel_rfl) 32 (.tmp 3) rfl ⟨g, 0, none⟩ rfl (kcs k) _ (fun w' hC => by obtain ⟨nl, rfl⟩ := hC; exact KT) Try.underlying32 rfl (tkSize k) ?_
    simp only [Act.put, List.setIfInBounds_toArray, List.set_cons_zero, List.set_cons_succ, List.getElem_toArray, List.getElem_cons_zero, List.getElem_cons_succ]
    repeat (go_big_quiet_step (fail))
    refine wpQuiet_nil ?_
    intro _ hw'
    obtain ⟨nq, hw''⟩ := hw'
    subst hw''
    go_wp2_with fail
    go_ret2
    exact ⟨.inr ⟨x, HX.out.1, HX.out.2, rfl⟩, below_drewN B1.out nq⟩
end Go.Proofs.Ytjjmjbemflhlbaa.Qu
