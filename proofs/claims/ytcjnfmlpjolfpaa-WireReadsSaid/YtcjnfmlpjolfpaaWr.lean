/- A wire.Writer in memory: its cell, the row of bytes that it owns, and what its calls Byte, Len and Bytes leave. -/
import Derived.Test.YtcjnfmlpjolfpaaRows
import Derived.Test.YtcjnfmlpjolfpaaApp
import Derived.WalkLawsBesides
import Derived.WalkSpells
import Derived.Handy
import Derived.Lib.Hide
import Derived.Outline
namespace Go.Proofs.Ytcjnfmlpjolfpaa
open Go Go.RowKit
set_option linter.unusedVariables false

/-- A byte as a cell; bytes as cells. -/
def bv (b : UInt8) : Value := .int .u8 (b.toNat : Int)
def bvs (l : List UInt8) : List Value := l.map bv
theorem bvs_length (l : List UInt8) : (bvs l).length = l.length := by simp [bvs]
theorem bvs_append (a b : List UInt8) : bvs (a ++ b) = bvs a ++ bvs b := by simp [bvs]
theorem bvs_one (l : List UInt8) : ∀ u ∈ bvs l, u.oneCell' = true := by
  intro u hu
  obtain ⟨_, _, rfl⟩ := List.mem_map.1 hu
  rfl
theorem bvs_get (l : List UInt8) (j : Nat) (h : j < l.length) : (bvs l)[j]? = some (bv l[j]) := by simp [bvs, h]

theorem Try.info5 : (Try.prog.info? 5).map (fun i => (i.zero, i.size, i.bytes)) = some (some (.int .u8 0), 1, 1) := by kernel_rfl

/-- What a call leaves that may write block b and the row r, and makes new blocks. -/
structure Fr (w w' : World) (b : Nat) (r : Option Nat) : Prop where
  os : w'.os = w.os
  tape : w'.tape = w.tape
  output : w'.output = w.output
  size : w.heap.size ≤ w'.heap.size
  block : ∀ k, k < w.heap.size → k ≠ b → some k ≠ r → w'.heap[k]? = w.heap[k]?

theorem Fr.refl (w : World) (b : Nat) (r : Option Nat) : Fr w w b r := ⟨rfl, rfl, rfl, Nat.le_refl _, fun _ _ _ _ => rfl⟩
theorem Fr.trans {a w w' : World} {b : Nat} {r r' : Option Nat} (h : Fr a w b r) (hr : r' = r ∨ ∃ g, r' = some g ∧ a.heap.size ≤ g) (k : Fr w w' b r') : Fr a w' b r :=
  ⟨k.os.trans h.os, k.tape.trans h.tape, k.output.trans h.output, Nat.le_trans h.size k.size, fun i hi hb hn =>
    (k.block i (Nat.lt_of_lt_of_le hi h.size) hb (by
      rcases hr with rfl | ⟨g, rfl, hg⟩
      · exact hn
      · intro e; cases e; omega)).trans (h.block i hi hb hn)⟩
theorem Fr.drew {a w : World} {b : Nat} {r : Option Nat} (h : Fr a w b r) : Fr a w.drew b r := ⟨h.os, h.tape, h.output, h.size, h.block⟩
theorem Fr.alloc {a w : World} {b : Nat} {r : Option Nat} (h : Fr a w b r) (o : Obj) : Fr a (w.alloc o) b r :=
  ⟨h.os, h.tape, h.output, by simpa using Nat.le_succ_of_le h.size, fun k hk hb hn => (Below.heap_alloc w o k (Nat.lt_of_lt_of_le hk h.size)).trans (h.block k hk hb hn)⟩
theorem Fr.set {a w : World} {b : Nat} {r : Option Nat} (h : Fr a w b r) (o : Nat) (v : Value) : Fr a (w.setCell ⟨b, o, none⟩ v) b r :=
  ⟨h.os, h.tape, h.output, by simpa [World.setCell] using h.size, fun k hk hb hn => (Below.heap_setCell w _ v k hb).trans (h.block k hk hb hn)⟩
theorem Fr.grown {a w w' : World} {b : Nat} {r : Option Nat} (h : Fr a w b r) (hg : w.grownBy w' r) : Fr a w' b r :=
  ⟨hg.os.trans h.os, hg.tape.trans h.tape, hg.output.trans h.output, Nat.le_trans h.size hg.size, fun k hk hb hn => (hg.block k (Nat.lt_of_lt_of_le hk h.size) hn).trans (h.block k hk hb hn)⟩
/-- Seen from a world whose blocks all lie below b and r. -/
theorem Fr.below {B : Nat} {w w' : World} {b : Nat} {r : Option Nat} (h : Fr w w' b r) (hB : B ≤ w.heap.size) (hb : B ≤ b) (hr : ∀ g, r = some g → B ≤ g) : Below B w w' :=
  ⟨h.os, h.tape, h.output, h.size, fun k hk => h.block k (by omega) (by omega) (fun e => by have := hr k e.symm; omega)⟩

/-- A Writer at block b, whose row is r, holds the bytes xs. -/
def Wr (w : World) (b : Nat) (r : Option Nat) (xs : List UInt8) : Prop :=
  ∃ v, w.heap[b]? = some (.cells #[v] 26 (0, 0)) ∧ w.ownsRow 0 5 1 v xs.length (bvs xs) ∧ v.ownBlock = r

/-- What a writing call leaves. -/
def Wrote (w w' : World) (b : Nat) (r : Option Nat) (zs : List UInt8) : Prop :=
  ∃ r', Wr w' b r' zs ∧ Fr w w' b r ∧ (r' = r ∨ ∃ g, r' = some g ∧ w.heap.size ≤ g)

theorem Wrote.trans {a w w' : World} {b : Nat} {r r' : Option Nat} {xs zs : List UInt8} (hf : Fr a w b r) (hr : r' = r ∨ ∃ g, r' = some g ∧ a.heap.size ≤ g) (k : Wrote w w' b r' zs) : Wrote a w' b r zs := by
  obtain ⟨r2, hw, hf2, hr2⟩ := k
  refine ⟨r2, hw, hf.trans hr hf2, ?_⟩
  rcases hr2 with rfl | ⟨g, rfl, hg⟩
  · exact hr
  · exact Or.inr ⟨g, rfl, Nat.le_trans hf.size hg⟩

theorem Wr.keep {w w' : World} {b : Nat} {r : Option Nat} {xs : List UInt8} (h : Wr w b r xs) (hb : w'.heap[b]? = w.heap[b]?) (hr : ∀ g, r = some g → w'.heap[g]? = w.heap[g]?) : Wr w' b r xs := by
  obtain ⟨v, h1, ⟨h2, h3⟩, rfl⟩ := h
  refine ⟨v, hb.trans h1, ⟨h2, ?_⟩, rfl⟩
  rcases h3 with h3 | ⟨g, cap, cur, rfl, hg, hh, rest⟩
  · exact Or.inl h3
  · exact Or.inr ⟨g, cap, cur, rfl, hg, (hr g rfl).trans hh, rest⟩
theorem Wr.lt {w : World} {b : Nat} {r : Option Nat} {xs : List UInt8} (h : Wr w b r xs) : b < w.heap.size := by
  obtain ⟨v, h1, _⟩ := h
  exact (Array.getElem?_eq_some_iff.1 h1).1
theorem Wr.rlt {w : World} {b : Nat} {r : Option Nat} {xs : List UInt8} (h : Wr w b r xs) : ∀ g, r = some g → g < w.heap.size := by
  obtain ⟨v, _, h2, rfl⟩ := h
  exact fun g hg => (h2.lt g hg).2
theorem Wr.ne {w : World} {b : Nat} {r : Option Nat} {xs : List UInt8} (h : Wr w b r xs) : r ≠ some b := by
  obtain ⟨v, h1, h2, rfl⟩ := h
  rcases h2.2 with ⟨rfl, _⟩ | ⟨g, cap, cur, rfl, _, hh, _⟩
  · simp [Value.ownBlock]
  · intro e
    have : g = b := by simpa [Value.ownBlock] using e
    subst this
    rw [hh] at h1
    simp at h1
theorem Wr.alloc {w : World} {b : Nat} {r : Option Nat} {xs : List UInt8} (h : Wr w b r xs) (o : Obj) : Wr (w.alloc o) b r xs :=
  h.keep (Below.heap_alloc w o b h.lt) (fun g hg => Below.heap_alloc w o g (h.rlt g hg))
theorem Wr.drew {w : World} {b : Nat} {r : Option Nat} {xs : List UInt8} (h : Wr w b r xs) : Wr w.drew b r xs := h
/-- A Writer that is just declared. -/
theorem Wr.new (w : World) : Wr (w.alloc (.cells #[.slice none 0 0] 26)) w.heap.size none [] :=
  ⟨.slice none 0 0, heap_alloc_new w _, World.ownsRow_nil _ 0 5 1, rfl⟩
/-- A Writer's cell. -/
theorem Wr.cell {w : World} {b : Nat} {r : Option Nat} {xs : List UInt8} (h : Wr w b r xs) :
    ∃ ao c, w.cell? ⟨b, 0, none⟩ = some (.slice ao xs.length c) ∧ w.frozen? ⟨b, 0, none⟩ = false ∧ w.ownsRow 0 5 1 (.slice ao xs.length c) xs.length (bvs xs) ∧ (Value.slice ao xs.length c).ownBlock = r := by
  obtain ⟨v, h1, h2, h3⟩ := h
  have hc : w.cell? ⟨b, 0, none⟩ = some v := by simp [World.cell?, h1]
  have hf : w.frozen? ⟨b, 0, none⟩ = false := by simp [World.frozen?, h1]
  rcases h2.2 with ⟨hv, h0⟩ | ⟨g, cap, cur, hv, _⟩
  · subst hv
    rw [h0]
    exact ⟨none, 0, hc, hf, by rw [h0] at h2; exact h2, h3⟩
  · subst hv
    exact ⟨_, cap, hc, hf, h2, h3⟩
theorem own_slice {w : World} {base : Nat} {e : TypeId} {size : Nat} {v : Value} {n : Nat} {xs : List Value} (h : w.ownsRow base e size v n xs) : ∃ ao c, v = .slice ao n c := by
  rcases h.2 with ⟨rfl, rfl⟩ | ⟨g, cap, cur, rfl, _⟩
  · exact ⟨_, _, rfl⟩
  · exact ⟨_, _, rfl⟩

theorem Wr.set {w : World} {b : Nat} {v v' : Value} {zs : List UInt8} (hb : w.heap[b]? = some (.cells #[v] 26 (0, 0))) (hown : w.ownsRow 0 5 1 v' zs.length (bvs zs)) (hne : v'.ownBlock ≠ some b) :
    Wr (w.setCell ⟨b, 0, none⟩ v') b v'.ownBlock zs := by
  refine ⟨v', by simp [World.setCell, Array.getElem?_modify, hb], ⟨hown.1, ?_⟩, rfl⟩
  rcases hown.2 with h | ⟨g, cap, cur, rfl, hg, hh, rest⟩
  · exact Or.inl h
  · exact Or.inr ⟨g, cap, cur, rfl, hg, (Below.heap_setCell w _ _ g (by intro e; apply hne; simp [Value.ownBlock, e])).trans hh, rest⟩

set_option maxHeartbeats 800000 in
theorem byte_any {w : World} {b : Nat} {r : Option Nat} {xs : List UInt8} (hw : Wr w b r xs) (ao : Option Addr) (m c : Nat) (ys : List UInt8) (hl : ys.length = m) (hno : ao = none → m = 0)
    (hsrc : ∀ a, ao = some a → ∀ j u, (bvs ys)[j]? = some u → w.cell? (a.add j) = some u) (hsz : xs.length + m ≤ 140737488355328) :
    Calls Try.prog 6 #[.pointer (some ⟨b, 0, none⟩), .slice ao m c] w fun e w' => e = .returned (.tuple #[]) ∧ Wrote w w' b r (xs ++ ys) := by
  obtain ⟨i0, hi, hz0, hz1, hz2⟩ := info_parts Try.info5
  obtain ⟨ax, cx, h0, f0, hown, hr⟩ := hw.cell
  have hne := hw.ne
  have hbl := hw.lt
  have S : Src Try.prog 1 24 (.slice ao m c) m (bvs ys) w := Src.any w (e' := 5) Try.underlying24 ao m c (bvs ys) (by rw [bvs_length, hl, Nat.mul_one]) hno hsrc (bvs_one ys)
  go_enter Try.func6, Try.ntmps6
  go_wp2_with (at_builtin; refine wpList_append_own_src _ rfl (.tmp 8) (.tmp 9) 24 24 rfl 0 5 i0 (.int .u8 0) 1 1 Try.underlying24 hi hz0 hz1 hz2 rfl _ xs.length (bvs xs) rfl hown _ m (bvs ys) rfl S ?b1 ?b2 (Nat.zero_le _) ?next)
  case b1 => unfold maxLen; omega
  case b2 => omega
  case next =>
    rintro v' w1 ⟨hown1, hgrow, hat⟩
    obtain ⟨ao', c', rfl⟩ := own_slice hown1
    rw [hr] at hgrow hat
    have hb1 : w1.heap[b]? = w.heap[b]? := hgrow.block b hbl (fun e => hne e.symm)
    have k0 := (World.cell?_of_block (a := ⟨b, 0, none⟩) hb1).trans h0
    have e0 := (World.frozen?_of_block (a := ⟨b, 0, none⟩) hb1).trans f0
    clear S hno hsrc h0 f0 hown
    go_wp2
    go_end0
    have hn' : (Value.slice ao' (xs.length + m) c').ownBlock ≠ some b := by
      rcases hat with h | h
      · rw [h]; exact hne
      · rw [h]; intro e; cases e; omega
    obtain ⟨v0, hv0, _⟩ := hw
    have hW := Wr.set (zs := xs ++ ys) (hb1.trans hv0) (by rw [bvs_append, List.length_append, hl]; exact hown1) hn'
    refine ⟨rfl, _, hW, ((Fr.refl w b r).grown hgrow).set 0 _, ?_⟩
    rcases hat with h | h
    · exact Or.inl h
    · exact Or.inr ⟨_, h, Nat.le_refl _⟩
end Go.Proofs.Ytcjnfmlpjolfpaa
