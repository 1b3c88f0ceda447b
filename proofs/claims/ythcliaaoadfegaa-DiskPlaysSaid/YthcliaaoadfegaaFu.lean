/- The law DiskFuse: its walk. -/
import Derived.Test.YthcliaaoadfegaaDq
import Derived.Test.YthcliaaoadfegaaDj
import Derived.Deep.RegionHeld3
namespace Go.Proofs.Ythcliaaoadfegaa.Dk
open Go Go.RowKit
set_option linter.unusedVariables false
set_option linter.unusedSimpArgs false

/-- Keys lie within the disk. -/
def DS.inside (x : DS) : Prop := ∀ i l, wfi i → x.S i = some l → x.has i = true
theorem DS.inside_new (n : Nat) : (DS.new n).inside := fun i l _ h => by simp [DS.new] at h
theorem DS.spend_same (x : DS) : x.spend.S = x.S ∧ x.spend.s = x.s := by
  unfold DS.spend
  split
  · exact ⟨rfl, rfl⟩
  · split <;> exact ⟨rfl, rfl⟩
theorem DS.write_len (x : DS) (i : Int) (b : List UInt8) : (x.write i b).s = x.s := by
  have h := x.spend_same
  unfold DS.write
  split
  · rfl
  · split
    · rfl
    · split
      · rfl
      · split
        · rfl
        · split
          · exact h.2
          · exact h.2
theorem DS.inside_write {x : DS} (h : x.inside) (i : Int) (b : List UInt8) : (x.write i b).inside := by
  intro j l hj hS
  have hlen := x.write_len i b
  have hh : (x.write i b).has j = x.has j := by unfold DS.has; rw [hlen]
  rw [hh]
  have hsp := x.spend_same
  unfold DS.write at hS
  split at hS
  · exact h j l hj hS
  · split at hS
    · exact h j l hj hS
    · split at hS
      · exact h j l hj hS
      · split at hS
        · exact h j l hj hS
        · split at hS
          · rw [hsp.1] at hS; exact h j l hj hS
          · rename_i hi _ _ _
            simp only [upd] at hS
            split at hS
            · rename_i e
              subst e
              simpa using hi
            · exact h j l hj hS
theorem DS.flush_len (x : DS) : x.flush.s.length = x.s.length := by
  have h := x.spend_same
  unfold DS.flush
  split
  · rfl
  · split
    · rw [h.2]
    · simp [laid_length]
theorem DS.inside_flush {x : DS} (h : x.inside) : x.flush.inside := by
  intro j l hj hS
  have hh : x.flush.has j = x.has j := by unfold DS.has; rw [x.flush_len]
  rw [hh]
  have hsp := x.spend_same
  unfold DS.flush at hS
  split at hS
  · exact h j l hj hS
  · split at hS
    · rw [hsp.1] at hS; exact h j l hj hS
    · simp at hS
/-- So the fuse burns: done of F. -/
def Burns (F done : Int) (z : DS) : Prop := (z.down = false ∧ z.fuse = F - done ∧ 0 ≤ done ∧ done ≤ F) ∨ (z.down = true ∧ done = F ∧ z.fuse = -1)
theorem burn_write {F done : Int} {z : DS} {i : Int} {b : List UInt8} (h : Burns F done z) (hi : z.has i = true) (hb : b.length = 128) :
    (z.wcode i 128 = 0 ∧ done < F ∧ Burns F (done + 1) (z.write i b) ∧ (z.write i b).down = false) ∨ (z.wcode i 128 = 50 ∧ done = F ∧ Burns F done (z.write i b) ∧ (z.write i b).down = true) := by
  rcases h with ⟨h1, h2, h3, h4⟩ | ⟨h1, h2, h5⟩
  · by_cases h0 : z.fuse = 0
    · right
      refine ⟨by simp [DS.wcode, h1, hi, h0], by omega, .inr ⟨?_, by omega, ?_⟩, ?_⟩ <;> simp [DS.write, DS.spend, h1, hi, hb, h0]
    · have hp : 0 < z.fuse := by omega
      left
      refine ⟨by simp [DS.wcode, h1, hi, h0], by omega, .inl ⟨?_, ?_, by omega, by omega⟩, ?_⟩
      · simp [DS.write, DS.spend, h1, hi, hb, h0, hp]
      · simp [DS.write, DS.spend, h1, hi, hb, h0, hp]; omega
      · simp [DS.write, DS.spend, h1, hi, hb, h0, hp]
  · right
    refine ⟨by simp [DS.wcode, h1], h2, .inr ⟨?_, h2, ?_⟩, ?_⟩ <;> simp [DS.write, h1, h5]
theorem burn_flush {F done : Int} {z : DS} (h : Burns F done z) :
    (z.fcode = 0 ∧ done < F ∧ Burns F (done + 1) z.flush ∧ z.flush.down = false) ∨ (z.fcode = 50 ∧ done = F ∧ Burns F done z.flush ∧ z.flush.down = true) := by
  rcases h with ⟨h1, h2, h3, h4⟩ | ⟨h1, h2, h5⟩
  · by_cases h0 : z.fuse = 0
    · right
      refine ⟨by simp [DS.fcode, h1, h0], by omega, .inr ⟨?_, by omega, ?_⟩, ?_⟩ <;> simp [DS.flush, DS.spend, h1, h0]
    · have hp : 0 < z.fuse := by omega
      left
      refine ⟨by simp [DS.fcode, h1, h0], by omega, .inl ⟨?_, ?_, by omega, by omega⟩, ?_⟩
      · simp [DS.flush, DS.spend, h1, h0, hp]
      · simp [DS.flush, DS.spend, h1, h0, hp]; omega
      · simp [DS.flush, DS.spend, h1, h0, hp]
  · right
    refine ⟨by simp [DS.fcode, h1], h2, .inr ⟨?_, h2, ?_⟩, ?_⟩ <;> simp [DS.flush, h1, h5]
theorem read_code {z : DS} (h : z.s.length = 4) : (z.read 0).2 = if z.down = true then 50 else 0 := by
  unfold DS.read
  split
  · rfl
  · split
    · rfl
    · simp [DS.sure, DS.has, h]
/-- Where the loop stands. -/
def FuRel (w : World) (F : Int) (d g m : Nat) (L : List OpD) (u v : Value) (wr : World) : Prop :=
  ∃ (j n : Nat) (done : Int) (z : DS), u = .int .i64 (j : Int) ∧ v = .int .i64 done ∧ j ≤ L.length ∧ n ≤ j ∧ Burns F done z ∧ z.inside ∧ z.s.length = 4 ∧ DiskAt Try.prog wr d g m n z ∧ Below w.heap.size w wr
end Go.Proofs.Ythcliaaoadfegaa.Dk
