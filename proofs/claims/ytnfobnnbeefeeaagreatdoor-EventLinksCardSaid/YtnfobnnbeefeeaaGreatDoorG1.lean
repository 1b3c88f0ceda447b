/- An append onto a slice that the call owns, whatever is appended (a slice, nil, a string's bytes, so many zeros): what comes back owns the old and the new, in its old row or in the block just made. No program's text is used. -/
import Derived.Deep.AppendSrc
import Derived.Maps.AppendAt
import Derived.Deep.AppendLies
import Derived.WalkKit
import Derived.Test.YtnfobnnbeefeeaaGreatDoorRows
import Derived.WalkLawsBesides
import Derived.WalkSpells
import Derived.Handy
import Derived.Lib.Hide
import Derived.Outline
import Derived.Deep.QuietTactic
import Derived.BigQuiet
import Derived.RegionTactic
import Derived.ChangeAlike
import Derived.BigRegion
import Derived.Laws.BytesArg
import Derived.Deep.RegionWith
import Derived.Deep.MidRow
namespace Go.Proofs.YtnfobnnbeefeeaaGreatDoor.Wi
open Go Go.RowKit

section
variable {P : Program} (w : World)

/-- What an append onto an owned slice leaves. -/
def Grew (w w' : World) (base : Nat) (e : TypeId) (size : Nat) (v v' : Value) (n : Nat) (xs : List Value) : Prop :=
  w'.ownsRow base e size v' n xs ∧ w.grownBy w' v.ownBlock ∧ (v'.ownBlock = v.ownBlock ∨ v'.ownBlock = some w.heap.size)

theorem run_append_own_src (base : Nat) (t tx ty e : TypeId) (i : TypeInfo) (z : Value) (size bytes : Nat) (ht : P.underlying t = some (.slice e)) (hi : P.info? e = some i) (hz : i.zero = some z)
    (hsize : i.size = size) (hby : i.bytes = bytes) (hzs : z.cells.size = size)
    (v : Value) (n : Nat) (xs : List Value) (hown : w.ownsRow base e size v n xs)
    (x : Value) (m : Nat) (news : List Value) (hs : Src P size tx x m news w)
    (h63 : n + m ≤ maxLen) (hbytes : (n + m) * bytes ≤ 140737488355328) (hbase : base ≤ w.heap.size) :
    ∃ v' w', (Builtin.append_ #[t, tx] ty #[v, x]).run P w = .ok v' w' ∧ Grew w w' base e size v v' (n + m) (xs ++ news) := by
  subst hsize
  subst hby
  have hsmall : n + m ≤ 9223372036854775807 := by simp only [maxLen] at h63; omega
  have hl := hs.newsLen
  have hlen : (xs ++ news).length = (n + m) * i.size := by rw [List.length_append, hown.1, hl, Nat.add_mul]
  have grown : ∀ (old : Nat), old < n + m → ∀ (row : Option Nat),
      (w.drew.alloc (.cells ((xs ++ news).toArray ++ Builtin.zeroCells z.cells (grownCap w (n + m) old e - (n + m))) e)).ownsRow base e i.size
        (.slice (some ⟨w.heap.size, 0, none⟩) (n + m) (grownCap w (n + m) old e)) (n + m) (xs ++ news) ∧
      w.grownBy (w.drew.alloc (.cells ((xs ++ news).toArray ++ Builtin.zeroCells z.cells (grownCap w (n + m) old e - (n + m))) e)) row := by
    intro old ho row
    have hge := grownCap_ge w (n + m) old e
    have hcm : grownCap w (n + m) old e ≤ maxLen := grownCap_le_maxLen w (n + m) old e h63
    refine ⟨⟨hlen, .inr ⟨w.heap.size, _, _, rfl, hbase, heap_alloc_new w.drew _, hge, hcm, ?_, ?_⟩⟩, ⟨rfl, rfl, rfl, by simp, fun k hk _ => Below.heap_alloc w.drew _ k hk⟩⟩
    · simp only [Array.size_append, List.size_toArray, size_zeroCells, hzs, hlen, ← Nat.add_mul]
      congr 1
      omega
    · simp only [Array.toList_append]
      rw [← hlen]
      exact List.take_left
  rcases hown.2 with ⟨rfl, rfl⟩ | ⟨g, cap, cur, rfl, hbg, hg, hnc, hcm, hcs, htake⟩
  · have hx : xs = [] := List.eq_nil_of_length_eq_zero (by simpa using hown.1)
    subst hx
    by_cases hm : m = 0
    · subst hm
      have hn : news = [] := List.eq_nil_of_length_eq_zero (by simpa using hl)
      subst hn
      refine ⟨.slice none 0 0, w, ?_, World.ownsRow_nil w base e i.size, ⟨rfl, rfl, rfl, Nat.le_refl _, fun _ _ _ => rfl⟩, Or.inl rfl⟩
      rcases hs.kind with ⟨e', hk⟩ | hk <;> simp [Builtin.append_, run_underlying ht, run_underlying hk, sizeOf, typeInfo, hi, hs.len, hs.cells]
    · have hold : (Builtin.firstCells i.size 0 (.slice none 0 0)).run P w.drew = .ok ([] : List Value).toArray w.drew := by simp [Builtin.firstCells]
      have hr := run_append_grow_src (P := P) w t tx ty e i z ht hi hz none 0 0 [] hold x m news hs (by omega) (by omega) (growslice_fits (by omega) (by simpa using hbytes))
      have hgr := grown 0 (by omega) (Value.ownBlock (.slice none 0 0))
      exact ⟨_, _, hr, hgr.1, hgr.2, Or.inr rfl⟩
  · by_cases hroom : n + m ≤ cap
    · have hfit : n * i.size + news.length ≤ cur.size := by rw [hl, hcs, ← Nat.add_mul]; exact Nat.mul_le_mul_right _ hroom
      have hst := run_storeCells_at P g (n * i.size) e news 0 cur w hg (by simpa using hfit) hs.one
      simp only [Nat.add_zero] at hst
      have hr : (Builtin.append_ #[t, tx] ty #[.slice (some ⟨g, 0, none⟩) n cap, x]).run P w =
          .ok (.slice (some ⟨g, 0, none⟩) (n + m) cap) (w.setRow g (cur.toList.take (n * i.size) ++ news ++ cur.toList.drop (n * i.size + news.length)).toArray) := by
        rcases hs.kind with ⟨e', hk⟩ | hk <;> simp [Builtin.append_, run_underlying ht, run_underlying hk, sizeOf, typeInfo, hi, hs.len, hroom, hs.cells, Addr.add_lit, hst]
      refine ⟨_, _, hr, ⟨hlen, .inr ⟨g, cap, _, rfl, hbg, setRow_heap w g cur _ e _ hg, hroom, hcm, ?_, ?_⟩⟩, ⟨rfl, rfl, rfl, by simp, fun k _ hk => setRow_other w g k _ (fun e => hk (by simp [Value.ownBlock, e]))⟩, Or.inl rfl⟩
      · simp only [List.size_toArray, List.length_append, List.length_take, List.length_drop, Array.length_toList]
        omega
      · rw [htake, ← hlen]
        exact List.take_left
    · have holds : ∀ j u, xs[j]? = some u → w.cell? ((⟨g, 0, none⟩ : Addr).add j) = some u := hown.cells (g := g) rfl
      have hold := run_firstCells_some (P := P) w.drew i.size n ⟨g, 0, none⟩ n cap xs hown.1 (by simpa using holds)
      have hr := run_append_grow_src (P := P) w t tx ty e i z ht hi hz (some ⟨g, 0, none⟩) n cap xs hold x m news hs (by omega) (by omega) (growslice_fits (by omega) hbytes)
      have hgr := grown cap (by omega) (Value.ownBlock (.slice (some ⟨g, 0, none⟩) n cap))
      exact ⟨_, _, hr, hgr.1, hgr.2, Or.inr rfl⟩

/-- At the operation. -/
theorem wpList_append_own_src {ops : Array Oper} {rest : List Oper} {o : Oper} {a : Act} {Q : Exit → Act → World → Prop} (hgd : o.guard = none) (s x : Operand) (t tx : TypeId)
    (ho : o.op = .call { callee := .builtin .append, args := #[s, x], argTypes := #[t, tx] })
    (base : Nat) (e : TypeId) (i : TypeInfo) (z : Value) (size bytes : Nat) (ht : P.underlying t = some (.slice e)) (hi : P.info? e = some i) (hz : i.zero = some z)
    (hsize : i.size = size) (hby : i.bytes = bytes) (hzs : z.cells.size = size)
    (v : Value) (n : Nat) (xs : List Value) (hsv : a.eval s = v) (hown : w.ownsRow base e size v n xs)
    (xv : Value) (m : Nat) (news : List Value) (hx : a.eval x = xv) (hs : Src P size tx xv m news w)
    (h63 : n + m ≤ maxLen) (hbytes : (n + m) * bytes ≤ 140737488355328) (hbase : base ≤ w.heap.size)
    (h : ∀ v' w', Grew w w' base e size v v' (n + m) (xs ++ news) → wpList P ops Q rest (a.put o.dst v') w') :
    wpList P ops Q (o :: rest) a w := by
  refine wpList_plain hgd fun K hK => ?_
  obtain ⟨v', w', hr, h2⟩ := run_append_own_src (P := P) w base t tx o.type e i z size bytes ht hi hz hsize hby hzs v n xs hown xv m news hs h63 hbytes hbase
  unfold Oper.wp execOp
  simp only [ho, resolve, invoke, builtin, Sem.run_bind, Sem.run_pure, Result.andThen_ok, List.map_toArray, List.map_cons, List.map_nil, hsv, hx, hr]
  exact hK _ _ (h v' w' h2)

/-- The source, whatever its address: nothing is asked where nothing is appended. -/
theorem Src.any {size : Nat} {tx e' : TypeId} (hk : P.underlying tx = some (.slice e')) (ao : Option Addr) (n c : Nat) (news : List Value) (hl : news.length = n * size) (hno : ao = none → n = 0)
    (hnews : ∀ a, ao = some a → ∀ j u, news[j]? = some u → w.cell? (a.add j) = some u) (h1 : ∀ u ∈ news, u.oneCell' = true) : Src P size tx (.slice ao n c) n news w := by
  cases ao with
  | none =>
    obtain rfl := hno rfl
    obtain rfl : news = [] := List.eq_nil_of_length_eq_zero (by simpa using hl)
    exact Src.ofNil w hk c
  | some a => exact Src.ofSlice w hk a n c news hl (hnews a rfl) h1
end
end Go.Proofs.YtnfobnnbeefeeaaGreatDoor.Wi
/- A wire.Writer in memory: its cell, the row of bytes that it owns, and what its calls Byte, Len and Bytes leave. -/
namespace Go.Proofs.YtnfobnnbeefeeaaGreatDoor.Wi
open Go Go.RowKit
set_option linter.unusedVariables false

/-- A byte as a cell; bytes as cells. -/
def bv (b : UInt8) : Value := .int .u8 (b.toNat : Int)
def bvs (l : List UInt8) : List Value := l.map bv
theorem bvs_length (l : List UInt8) : (bvs l).length = l.length := by simp [bvs]
theorem bvs_append (a b : List UInt8) : bvs (a ++ b) = bvs a ++ bvs b := by simp [bvs]
theorem bvs_one (l : List UInt8) : ∀ u ∈ bvs l, u.oneCell' = true := by
  intro u hu
  obtain ⟨_, _, rfl⟩ := List.mem_map.1 hu
  rfl
theorem bvs_get (l : List UInt8) (j : Nat) (h : j < l.length) : (bvs l)[j]? = some (bv l[j]) := by simp [bvs, h]

theorem Tryz.info5 : (Tryz.prog.info? 5).map (fun i => (i.zero, i.size, i.bytes)) = some (some (.int .u8 0), 1, 1) := by kernel_rfl

/-- What a call leaves that may write block b and the row r, and makes new blocks. -/
structure Fr (w w' : World) (b : Nat) (r : Option Nat) : Prop where
  os : w'.os = w.os
  tape : w'.tape = w.tape
  output : w'.output = w.output
  size : w.heap.size ≤ w'.heap.size
  block : ∀ k, k < w.heap.size → k ≠ b → some k ≠ r → w'.heap[k]? = w.heap[k]?

theorem Fr.refl (w : World) (b : Nat) (r : Option Nat) : Fr w w b r := ⟨rfl, rfl, rfl, Nat.le_refl _, fun _ _ _ _ => rfl⟩
theorem Fr.trans {a w w' : World} {b : Nat} {r r' : Option Nat} (h : Fr a w b r) (hr : r' = r ∨ ∃ g, r' = some g ∧ a.heap.size ≤ g) (k : Fr w w' b r') : Fr a w' b r :=
  ⟨k.os.trans h.os, k.tape.trans h.tape, k.output.trans h.output, Nat.le_trans h.size k.size, fun i hi hb hn =>
    (k.block i (Nat.lt_of_lt_of_le hi h.size) hb (by
      rcases hr with rfl | ⟨g, rfl, hg⟩
      · exact hn
      · intro e; cases e; omega)).trans (h.block i hi hb hn)⟩
theorem Fr.drew {a w : World} {b : Nat} {r : Option Nat} (h : Fr a w b r) : Fr a w.drew b r := ⟨h.os, h.tape, h.output, h.size, h.block⟩
theorem Fr.alloc {a w : World} {b : Nat} {r : Option Nat} (h : Fr a w b r) (o : Obj) : Fr a (w.alloc o) b r :=
  ⟨h.os, h.tape, h.output, by simpa using Nat.le_succ_of_le h.size, fun k hk hb hn => (Below.heap_alloc w o k (Nat.lt_of_lt_of_le hk h.size)).trans (h.block k hk hb hn)⟩
theorem Fr.set {a w : World} {b : Nat} {r : Option Nat} (h : Fr a w b r) (o : Nat) (v : Value) : Fr a (w.setCell ⟨b, o, none⟩ v) b r :=
  ⟨h.os, h.tape, h.output, by simpa [World.setCell] using h.size, fun k hk hb hn => (Below.heap_setCell w _ v k hb).trans (h.block k hk hb hn)⟩
theorem Fr.grown {a w w' : World} {b : Nat} {r : Option Nat} (h : Fr a w b r) (hg : w.grownBy w' r) : Fr a w' b r :=
  ⟨hg.os.trans h.os, hg.tape.trans h.tape, hg.output.trans h.output, Nat.le_trans h.size hg.size, fun k hk hb hn => (hg.block k (Nat.lt_of_lt_of_le hk h.size) hn).trans (h.block k hk hb hn)⟩
/-- Seen from a world whose blocks all lie below b and r. -/
theorem Fr.below {B : Nat} {w w' : World} {b : Nat} {r : Option Nat} (h : Fr w w' b r) (hB : B ≤ w.heap.size) (hb : B ≤ b) (hr : ∀ g, r = some g → B ≤ g) : Below B w w' :=
  ⟨h.os, h.tape, h.output, h.size, fun k hk => h.block k (by omega) (by omega) (fun e => by have := hr k e.symm; omega)⟩

/-- A Writer at block b, whose row is r, holds the bytes xs. -/
def Wr (w : World) (b : Nat) (r : Option Nat) (xs : List UInt8) : Prop :=
  ∃ v, w.heap[b]? = some (.cells #[v] 93 (0, 0)) ∧ w.ownsRow 0 5 1 v xs.length (bvs xs) ∧ v.ownBlock = r

/-- What a writing call leaves. -/
def Wrote (w w' : World) (b : Nat) (r : Option Nat) (zs : List UInt8) : Prop :=
  ∃ r', Wr w' b r' zs ∧ Fr w w' b r ∧ (r' = r ∨ ∃ g, r' = some g ∧ w.heap.size ≤ g)

theorem Wrote.trans {a w w' : World} {b : Nat} {r r' : Option Nat} {xs zs : List UInt8} (hf : Fr a w b r) (hr : r' = r ∨ ∃ g, r' = some g ∧ a.heap.size ≤ g) (k : Wrote w w' b r' zs) : Wrote a w' b r zs := by
  obtain ⟨r2, hw, hf2, hr2⟩ := k
  refine ⟨r2, hw, hf.trans hr hf2, ?_⟩
  rcases hr2 with rfl | ⟨g, rfl, hg⟩
  · exact hr
  · exact Or.inr ⟨g, rfl, Nat.le_trans hf.size hg⟩

theorem Wr.keep {w w' : World} {b : Nat} {r : Option Nat} {xs : List UInt8} (h : Wr w b r xs) (hb : w'.heap[b]? = w.heap[b]?) (hr : ∀ g, r = some g → w'.heap[g]? = w.heap[g]?) : Wr w' b r xs := by
  obtain ⟨v, h1, ⟨h2, h3⟩, rfl⟩ := h
  refine ⟨v, hb.trans h1, ⟨h2, ?_⟩, rfl⟩
  rcases h3 with h3 | ⟨g, cap, cur, rfl, hg, hh, rest⟩
  · exact Or.inl h3
  · exact Or.inr ⟨g, cap, cur, rfl, hg, (hr g rfl).trans hh, rest⟩
theorem Wr.lt {w : World} {b : Nat} {r : Option Nat} {xs : List UInt8} (h : Wr w b r xs) : b < w.heap.size := by
  obtain ⟨v, h1, _⟩ := h
  exact (Array.getElem?_eq_some_iff.1 h1).1
theorem Wr.rlt {w : World} {b : Nat} {r : Option Nat} {xs : List UInt8} (h : Wr w b r xs) : ∀ g, r = some g → g < w.heap.size := by
  obtain ⟨v, _, h2, rfl⟩ := h
  exact fun g hg => (h2.lt g hg).2
theorem Wr.ne {w : World} {b : Nat} {r : Option Nat} {xs : List UInt8} (h : Wr w b r xs) : r ≠ some b := by
  obtain ⟨v, h1, h2, rfl⟩ := h
  rcases h2.2 with ⟨rfl, _⟩ | ⟨g, cap, cur, rfl, _, hh, _⟩
  · simp [Value.ownBlock]
  · intro e
    have : g = b := by simpa [Value.ownBlock] using e
    subst this
    rw [hh] at h1
    simp at h1
theorem Wr.alloc {w : World} {b : Nat} {r : Option Nat} {xs : List UInt8} (h : Wr w b r xs) (o : Obj) : Wr (w.alloc o) b r xs :=
  h.keep (Below.heap_alloc w o b h.lt) (fun g hg => Below.heap_alloc w o g (h.rlt g hg))
theorem Wr.drew {w : World} {b : Nat} {r : Option Nat} {xs : List UInt8} (h : Wr w b r xs) : Wr w.drew b r xs := h
/-- A Writer that is just declared. -/
theorem Wr.new (w : World) : Wr (w.alloc (.cells #[.slice none 0 0] 93)) w.heap.size none [] :=
  ⟨.slice none 0 0, heap_alloc_new w _, World.ownsRow_nil _ 0 5 1, rfl⟩
/-- A Writer's cell. -/
theorem Wr.cell {w : World} {b : Nat} {r : Option Nat} {xs : List UInt8} (h : Wr w b r xs) :
    ∃ ao c, w.cell? ⟨b, 0, none⟩ = some (.slice ao xs.length c) ∧ w.frozen? ⟨b, 0, none⟩ = false ∧ w.ownsRow 0 5 1 (.slice ao xs.length c) xs.length (bvs xs) ∧ (Value.slice ao xs.length c).ownBlock = r := by
  obtain ⟨v, h1, h2, h3⟩ := h
  have hc : w.cell? ⟨b, 0, none⟩ = some v := by simp [World.cell?, h1]
  have hf : w.frozen? ⟨b, 0, none⟩ = false := by simp [World.frozen?, h1]
  rcases h2.2 with ⟨hv, h0⟩ | ⟨g, cap, cur, hv, _⟩
  · subst hv
    rw [h0]
    exact ⟨none, 0, hc, hf, by rw [h0] at h2; exact h2, h3⟩
  · subst hv
    exact ⟨_, cap, hc, hf, h2, h3⟩
theorem own_slice {w : World} {base : Nat} {e : TypeId} {size : Nat} {v : Value} {n : Nat} {xs : List Value} (h : w.ownsRow base e size v n xs) : ∃ ao c, v = .slice ao n c := by
  rcases h.2 with ⟨rfl, rfl⟩ | ⟨g, cap, cur, rfl, _⟩
  · exact ⟨_, _, rfl⟩
  · exact ⟨_, _, rfl⟩

theorem Wr.set {w : World} {b : Nat} {v v' : Value} {zs : List UInt8} (hb : w.heap[b]? = some (.cells #[v] 93 (0, 0))) (hown : w.ownsRow 0 5 1 v' zs.length (bvs zs)) (hne : v'.ownBlock ≠ some b) :
    Wr (w.setCell ⟨b, 0, none⟩ v') b v'.ownBlock zs := by
  refine ⟨v', by simp [World.setCell, Array.getElem?_modify, hb], ⟨hown.1, ?_⟩, rfl⟩
  rcases hown.2 with h | ⟨g, cap, cur, rfl, hg, hh, rest⟩
  · exact Or.inl h
  · exact Or.inr ⟨g, cap, cur, rfl, hg, (Below.heap_setCell w _ _ g (by intro e; apply hne; simp [Value.ownBlock, e])).trans hh, rest⟩

set_option maxHeartbeats 800000 in
theorem byte_any {w : World} {b : Nat} {r : Option Nat} {xs : List UInt8} (hw : Wr w b r xs) (ao : Option Addr) (m c : Nat) (ys : List UInt8) (hl : ys.length = m) (hno : ao = none → m = 0)
    (hsrc : ∀ a, ao = some a → ∀ j u, (bvs ys)[j]? = some u → w.cell? (a.add j) = some u) (hsz : xs.length + m ≤ 140737488355328) :
    Calls Tryz.prog 107 #[.pointer (some ⟨b, 0, none⟩), .slice ao m c] w fun e w' => e = .returned (.tuple #[]) ∧ Wrote w w' b r (xs ++ ys) := by
  obtain ⟨i0, hi, hz0, hz1, hz2⟩ := info_parts Tryz.info5
  obtain ⟨ax, cx, h0, f0, hown, hr⟩ := hw.cell
  have hne := hw.ne
  have hbl := hw.lt
  have S : Src Tryz.prog 1 36 (.slice ao m c) m (bvs ys) w := Src.any w (e' := 5) Tryz.underlying36 ao m c (bvs ys) (by rw [bvs_length, hl, Nat.mul_one]) hno hsrc (bvs_one ys)
  go_enter Tryz.func107, Tryz.ntmps107
  go_wp2_with (at_builtin; refine wpList_append_own_src _ rfl (.tmp 8) (.tmp 9) 36 36 rfl 0 5 i0 (.int .u8 0) 1 1 Tryz.underlying36 hi hz0 hz1 hz2 rfl _ xs.length (bvs xs) rfl hown _ m (bvs ys) rfl S ?b1 ?b2 (Nat.zero_le _) ?next)
  case b1 => unfold maxLen; omega
  case b2 => omega
  case next =>
    rintro v' w1 ⟨hown1, hgrow, hat⟩
    obtain ⟨ao', c', rfl⟩ := own_slice hown1
    rw [hr] at hgrow hat
    have hb1 : w1.heap[b]? = w.heap[b]? := hgrow.block b hbl (fun e => hne e.symm)
    have k0 := (World.cell?_of_block (a := ⟨b, 0, none⟩) hb1).trans h0
    have e0 := (World.frozen?_of_block (a := ⟨b, 0, none⟩) hb1).trans f0
    clear S hno hsrc h0 f0 hown
    go_wp2
    go_end0
    have hn' : (Value.slice ao' (xs.length + m) c').ownBlock ≠ some b := by
      rcases hat with h | h
      · rw [h]; exact hne
      · rw [h]; intro e; cases e; omega
    obtain ⟨v0, hv0, _⟩ := hw
    have hW := Wr.set (zs := xs ++ ys) (hb1.trans hv0) (by rw [bvs_append, List.length_append, hl]; exact hown1) hn'
    refine ⟨rfl, _, hW, ((Fr.refl w b r).grown hgrow).set 0 _, ?_⟩
    rcases hat with h | h
    · exact Or.inl h
    · exact Or.inr ⟨_, h, Nat.le_refl _⟩
end Go.Proofs.YtnfobnnbeefeeaaGreatDoor.Wi
/- Numbers as bytes, seven bits a byte, the lowest first; numbers with a sign as numbers without one. Plain arithmetic; no program's text is used. -/
namespace Go.Proofs.YtnfobnnbeefeeaaGreatDoor.Wi

/-- A number's bytes, at most so many. -/
def encF : Nat → Nat → List UInt8
  | 0, _ => []
  | f + 1, n => if n < 128 then [UInt8.ofNat n] else UInt8.ofNat (n % 128 + 128) :: encF f (n / 128)
/-- A number's bytes. -/
def enc (n : Nat) : List UInt8 := encF 10 n

theorem encF_succ (f n : Nat) : encF (f + 1) n = if n < 128 then [UInt8.ofNat n] else UInt8.ofNat (n % 128 + 128) :: encF f (n / 128) := rfl
theorem encF_more (f : Nat) : ∀ n, n < 128 ^ (f + 1) → encF (f + 1) n = encF (f + 2) n := by
  induction f with
  | zero => intro n h; simp [encF, show n < 128 by omega]
  | succ f ih =>
    intro n h
    rw [encF_succ (f + 1), encF_succ (f + 2), ih (n / 128) (by rw [Nat.div_lt_iff_lt_mul (by omega)]; simpa [Nat.pow_succ] using h)]
theorem enc_lt {n : Nat} (h : n < 128) : enc n = [UInt8.ofNat n] := by simp [enc, encF, h]
theorem enc_ge {n : Nat} (h : 128 ≤ n) (hn : n < 18446744073709551616) : enc n = UInt8.ofNat (n % 128 + 128) :: enc (n / 128) := by
  have e := encF_more 8 (n / 128) (by simp; omega)
  unfold enc
  rw [encF_succ 9, if_neg (by omega), e]
theorem encF_length (f n : Nat) : (encF f n).length ≤ f := by
  induction f generalizing n with
  | zero => simp [encF]
  | succ f ih => rw [encF]; split <;> simp; exact ih _
theorem enc_length (n : Nat) : (enc n).length ≤ 10 := encF_length 10 n
theorem u8_low (n : Nat) : ((UInt8.ofNat (n % 128 + 128)).toNat : Int) = (n : Int) % 128 + 128 := by
  rw [UInt8.toNat_ofNat']; omega
theorem u8_small {n : Nat} (h : n < 128) : ((UInt8.ofNat n).toNat : Int) = (n : Int) := by
  rw [UInt8.toNat_ofNat']; omega

/-- A number with a sign, as one without. -/
def zig (n : Int) : Nat := if n < 0 then (-2 * n - 1).toNat else (2 * n).toNat
theorem zig_neg {n : Int} (h : n < 0) : ((zig n : Nat) : Int) = -2 * n - 1 := by unfold zig; rw [if_pos h]; omega
theorem zig_pos {n : Int} (h : 0 ≤ n) : ((zig n : Nat) : Int) = 2 * n := by unfold zig; rw [if_neg (by omega)]; omega
theorem zig_lt {n : Int} (h0 : -9223372036854775808 ≤ n) (h1 : n ≤ 9223372036854775807) : zig n < 18446744073709551616 := by unfold zig; split <;> omega
/-- And back. -/
def zag (u : Nat) : Int := if u % 2 = 1 then -((u / 2 : Nat) : Int) - 1 else ((u / 2 : Nat) : Int)
theorem zag_zig (n : Int) : zag (zig n) = n := by unfold zag zig; split <;> split <;> omega
theorem zig_zag (u : Nat) : zig (zag u) = u := by unfold zag zig; split <;> split <;> omega
end Go.Proofs.YtnfobnnbeefeeaaGreatDoor.Wi
/- What a Writer's calls Len, Bytes, Num and Int leave. -/
namespace Go.Proofs.YtnfobnnbeefeeaaGreatDoor.Wi
open Go Go.RowKit
set_option linter.unusedVariables false

theorem ret_int {k : IntKind} {a b : Int} (h : a = b) : Ending.returned (.int k a) = .returned (.int k b) := by rw [h]

theorem len_any {w : World} {b : Nat} {r : Option Nat} {xs : List UInt8} (hw : Wr w b r xs) :
    Calls Tryz.prog 106 #[.pointer (some ⟨b, 0, none⟩)] w fun e w' => e = .returned (.int .i64 (xs.length : Int)) ∧ w = w' := by
  obtain ⟨ao, c, h0, f0, _⟩ := hw.cell
  go_enter Tryz.func106, Tryz.ntmps106
  go_wp2
  go_ret
  exact ⟨rfl, rfl⟩

/-- One byte. -/
theorem byte_one {w : World} {b : Nat} {r : Option Nat} {xs : List UInt8} (hw : Wr w b r xs) (g : Nat) (hg : g = w.heap.size) (x : Int) (y : UInt8) (hx : x = (y.toNat : Int)) (hsz : xs.length + 1 ≤ 140737488355328) :
    Calls Tryz.prog 107 #[.pointer (some ⟨b, 0, none⟩), .slice (some ⟨g, 0, none⟩) 1 1] (w.alloc (.cells #[.int .u8 x] 5)) fun e w' => e = .returned (.tuple #[]) ∧ Wrote w w' b r (xs ++ [y]) := by
  subst hx hg
  refine (byte_any (hw.alloc _) (some ⟨w.heap.size, 0, none⟩) 1 1 [y] rfl (by simp) ?_ hsz).mono ?_
  · intro a ha j u hu
    cases ha
    match j, hu with
    | 0, hu =>
      simp [bvs] at hu
      subst hu
      simp [Addr.add, bv]
  · rintro e w' ⟨rfl, h⟩
    exact ⟨rfl, Wrote.trans (xs := xs) ((Fr.refl w b r).alloc _) (Or.inl rfl) h⟩

/-- Where the inner loop of Num stands. -/
def NumRel (w : World) (b : Nat) (r : Option Nat) (xs : List UInt8) (n : Nat) (u : Value) (wr : World) : Prop :=
  ∃ (m : Nat) (pre : List UInt8) (r' : Option Nat), u = .int .u64 (m : Int) ∧ m < 18446744073709551616 ∧ enc n = pre ++ enc m ∧ Wr wr b r' (xs ++ pre) ∧ Fr w wr b r ∧ (r' = r ∨ ∃ g, r' = some g ∧ w.heap.size ≤ g)

set_option maxRecDepth 100000 in
set_option maxHeartbeats 1600000 in
theorem num_one {w : World} {b : Nat} {r : Option Nat} {xs : List UInt8} (hw : Wr w b r xs) (g : Nat) (hg : g = w.heap.size) (x : Int) (n : Nat) (hx : x = (n : Int)) (hn : n < 18446744073709551616) (hsz : xs.length + 10 ≤ 140737488355328) :
    Calls Tryz.prog 73 #[.pointer (some ⟨b, 0, none⟩), .slice (some ⟨g, 0, none⟩) 1 1] (w.alloc (.cells #[.int .u64 x] 80)) fun e w' => e = .returned (.tuple #[]) ∧ Wrote w w' b r (xs ++ enc n) := by
  subst hx hg
  have hel := enc_length n
  go_enter Tryz.func73, Tryz.ntmps73
  go_wp2
  refine wp_loop_rounds 2 ?_
  rw [rounds_succ]
  go_wp2
  go_loopw [5] (fun u wr => NumRel w b r xs n u wr) (fun u _ => (intOf u).toNat)
  case atStart => exact ⟨n, [], r, rfl, hn, rfl, by simpa using hw.alloc _, (Fr.refl w b r).alloc _, Or.inl rfl⟩
  case round =>
    obtain ⟨m, pre, r', rfl, hm, henc, hW, hF, hr⟩ := hrel
    have hpl : pre.length + (enc m).length = (enc n).length := by rw [henc, List.length_append]
    by_cases h128 : 128 ≤ m
    · have h1 : xs.length + pre.length + 1 ≤ 140737488355328 := by
        rw [enc_ge h128 hm] at hpl; simp at hpl; omega
      have HE := Lib.hid henc
      clear hpl henc
      go_wp2_with (go_at_call 107; refine (byte_one hW _ rfl _ (UInt8.ofNat (m % 128 + 128)) (u8_low m).symm (by simpa [Nat.add_assoc] using h1)).mono ?_; rintro e w2 ⟨rfl, hW2⟩)
      go_roundw
      case rel =>
        obtain ⟨r2, w2W, w2F, w2r⟩ := hW2
        refine ⟨m / 128, pre ++ [UInt8.ofNat (m % 128 + 128)], r2, by go_num, by omega, ?_, by simpa [List.append_assoc] using w2W, hF.trans hr w2F, ?_⟩
        · rw [HE.out, enc_ge h128 hm]; simp
        · rcases w2r with rfl | ⟨g, rfl, hg⟩
          · exact hr
          · exact Or.inr ⟨g, rfl, Nat.le_trans hF.size hg⟩
      case measure => simp [intOf]; omega
    · have h1 : xs.length + pre.length + 1 ≤ 140737488355328 := by
        rw [enc_lt (by omega)] at hpl; simp at hpl; omega
      have HE := Lib.hid henc
      clear hpl henc
      go_wp2_with (go_at_call 107; refine (byte_one hW _ rfl _ (UInt8.ofNat m) (u8_small (by omega)).symm (by simpa [Nat.add_assoc] using h1)).mono ?_; rintro e w2 ⟨rfl, hW2⟩)
      rw [rounds_succ]
      go_wp2
      go_end0
      refine ⟨rfl, ?_⟩
      have := Wrote.trans (xs := xs ++ pre) hF hr hW2
      rw [HE.out, enc_lt (by omega)]
      simpa [List.append_assoc] using this

theorem i64_not_neg {n : Int} (h0 : -9223372036854775808 ≤ n) (h1 : n < 0) : bits .xor .i64 (-1) n = -1 - n := by
  show IntKind.i64.wrap ((BitVec.ofInt 64 (-1) ^^^ BitVec.ofInt 64 n).toNat : Int) = _
  have e : BitVec.ofInt 64 (-1) = BitVec.allOnes 64 := by decide
  rw [e, BitVec.allOnes_xor, BitVec.toNat_not, BitVec.toNat_ofInt]
  simp [IntKind.wrap, IntKind.bits, IntKind.signed]
  omega

theorem fold_any (n : Int) (w : World) (h0 : -9223372036854775808 ≤ n) (h1 : n ≤ 9223372036854775807) :
    Calls Tryz.prog 155 #[.int .i64 n] w fun e w' => e = .returned (.int .u64 (zig n : Int)) ∧ w = w' := by
  by_cases hn : n < 0
  · have hx := i64_not_neg h0 hn
    have z := zig_neg hn
    go_enter Tryz.func155, Tryz.ntmps155
    go_wp2
    all_goals (go_ret; exact ⟨ret_int (by rw [IntKind.wrap_u64, IntKind.wrap_u64, IntKind.wrap_u64]; omega), rfl⟩)
  · have z := zig_pos (show 0 ≤ n by omega)
    go_enter Tryz.func155, Tryz.ntmps155
    go_wp2
    go_ret
    exact ⟨ret_int (by omega), rfl⟩

theorem bytes_any {w : World} {b : Nat} {r : Option Nat} {xs : List UInt8} (hw : Wr w b r xs) (hsz : xs.length ≤ 140737488355328) :
    Calls Tryz.prog 75 #[.pointer (some ⟨b, 0, none⟩)] w fun e w' => ∃ ao c, e = .returned (.slice ao xs.length c) ∧ w'.ownsRow w.heap.size 5 1 (.slice ao xs.length c) xs.length (bvs xs) ∧ Below w.heap.size w w' := by
  obtain ⟨i0, hi, hz0, hz1, hz2⟩ := info_parts Tryz.info5
  obtain ⟨ax, cx, h0, f0, hown, hr⟩ := hw.cell
  have S : Src Tryz.prog 1 36 (.slice ax xs.length cx) xs.length (bvs xs) w := Src.any w (e' := 5) Tryz.underlying36 ax _ cx (bvs xs) (by rw [bvs_length, Nat.mul_one])
    (by rcases hown.2 with ⟨h, h0⟩ | ⟨g, cap, cur, h, _⟩
        · exact fun _ => h0
        · intro e; subst e; cases h)
    (by rcases hown.2 with ⟨h, h0⟩ | ⟨g, cap, cur, h, _⟩
        · intro a ha; subst ha; cases h
        · intro a ha; subst ha; cases h; exact hown.cells rfl) (bvs_one xs)
  go_enter Tryz.func75, Tryz.ntmps75
  go_wp2_with (at_builtin; refine wpList_append_own_src _ rfl (.const (.slice none 0 0)) (.tmp 6) 36 36 rfl w.heap.size 5 i0 (.int .u8 0) 1 1 Tryz.underlying36 hi hz0 hz1 hz2 rfl _ 0 [] rfl (World.ownsRow_nil _ _ _ _) _ xs.length (bvs xs) rfl S ?b1 ?b2 (Nat.le_refl _) ?next)
  case b1 => unfold maxLen; omega
  case b2 => omega
  case next =>
    rintro v' w1 ⟨hown1, hgrow, hat⟩
    obtain ⟨ao', c', rfl⟩ := own_slice hown1
    have hB : Below w.heap.size w w1 := (Below.refl _ _).grown hgrow (Nat.le_refl _) (fun k h => by cases h)
    clear S h0 f0 hown
    go_wp2
    go_ret
    exact ⟨ao', c', rfl, hown1, hB⟩

set_option maxRecDepth 100000 in
set_option maxHeartbeats 1600000 in
theorem int_one {w : World} {b : Nat} {r : Option Nat} {xs : List UInt8} (hw : Wr w b r xs) (g : Nat) (hg : g = w.heap.size) (n : Int) (h0 : -9223372036854775808 ≤ n) (h1 : n ≤ 9223372036854775807) (hsz : xs.length + 10 ≤ 140737488355328) :
    Calls Tryz.prog 137 #[.pointer (some ⟨b, 0, none⟩), .slice (some ⟨g, 0, none⟩) 1 1] (w.alloc (.cells #[.int .i64 n] 2)) fun e w' => e = .returned (.tuple #[]) ∧ Wrote w w' b r (xs ++ enc (zig n)) := by
  subst hg
  have hz := zig_lt h0 h1
  have hw1 := hw.alloc (.cells #[.int .i64 n] 2)
  go_enter Tryz.func137, Tryz.ntmps137
  go_wp2_with fail
  refine wp_loop_rounds 2 ?_
  rw [rounds_succ]
  go_wp2_with fail
  refine (fold_any n _ h0 h1).mono ?_
  rintro e w2 ⟨rfl, rfl⟩
  go_wp2_with fail
  refine (num_one hw1 _ (by simp) _ (zig n) rfl hz hsz).mono ?_
  rintro e w2 ⟨rfl, hW2⟩
  go_wp2_with fail
  rw [rounds_succ]
  go_wp2_with fail
  go_end0
  exact ⟨rfl, Wrote.trans (xs := xs) ((Fr.refl w b r).alloc _) (Or.inl rfl) hW2⟩
end Go.Proofs.YtnfobnnbeefeeaaGreatDoor.Wi
/- A wire.Reader in memory; what Read and a Reader's calls next, Fail, Err, At and Left leave. -/
namespace Go.Proofs.YtnfobnnbeefeeaaGreatDoor.Wi
open Go Go.RowKit
set_option linter.unusedVariables false

/-- A Reader at block b, whose row is r, over the bytes xs, of which 'at' are read; its error's number. -/
def Rd (w : World) (b : Nat) (r : Option Nat) (xs : List UInt8) (k : Nat) (err : Int) : Prop :=
  k ≤ xs.length ∧ ∃ v, w.heap[b]? = some (.cells #[v, .int .i64 (k : Int), .int .i64 err] 127 (0, 0)) ∧ w.ownsRow 0 5 1 v xs.length (bvs xs) ∧ v.ownBlock = r

theorem Rd.keep {w w' : World} {b : Nat} {r : Option Nat} {xs : List UInt8} {k : Nat} {err : Int} (h : Rd w b r xs k err) (hb : w'.heap[b]? = w.heap[b]?) (hr : ∀ g, r = some g → w'.heap[g]? = w.heap[g]?) : Rd w' b r xs k err := by
  obtain ⟨hk, v, h1, ⟨h2, h3⟩, rfl⟩ := h
  refine ⟨hk, v, hb.trans h1, ⟨h2, ?_⟩, rfl⟩
  rcases h3 with h3 | ⟨g, cap, cur, rfl, hg, hh, rest⟩
  · exact Or.inl h3
  · exact Or.inr ⟨g, cap, cur, rfl, hg, (hr g rfl).trans hh, rest⟩
theorem Rd.lt {w : World} {b : Nat} {r : Option Nat} {xs : List UInt8} {k : Nat} {err : Int} (h : Rd w b r xs k err) : b < w.heap.size := by
  obtain ⟨_, v, h1, _⟩ := h
  exact (Array.getElem?_eq_some_iff.1 h1).1
theorem Rd.rlt {w : World} {b : Nat} {r : Option Nat} {xs : List UInt8} {k : Nat} {err : Int} (h : Rd w b r xs k err) : ∀ g, r = some g → g < w.heap.size := by
  obtain ⟨_, v, _, h2, rfl⟩ := h
  exact fun g hg => (h2.lt g hg).2
theorem Rd.ne {w : World} {b : Nat} {r : Option Nat} {xs : List UInt8} {k : Nat} {err : Int} (h : Rd w b r xs k err) : r ≠ some b := by
  obtain ⟨_, v, h1, h2, rfl⟩ := h
  rcases h2.2 with ⟨rfl, _⟩ | ⟨g, cap, cur, rfl, _, hh, _⟩
  · simp [Value.ownBlock]
  · intro e
    have : g = b := by simpa [Value.ownBlock] using e
    subst this
    rw [hh] at h1
    simp at h1
theorem Rd.alloc {w : World} {b : Nat} {r : Option Nat} {xs : List UInt8} {k : Nat} {err : Int} (h : Rd w b r xs k err) (o : Obj) : Rd (w.alloc o) b r xs k err :=
  h.keep (Below.heap_alloc w o b h.lt) (fun g hg => Below.heap_alloc w o g (h.rlt g hg))
theorem Rd.below {B : Nat} {w w' : World} {b : Nat} {r : Option Nat} {xs : List UInt8} {k : Nat} {err : Int} (h : Rd w b r xs k err) (hB : Below w.heap.size w w') : Rd w' b r xs k err :=
  h.keep (hB.block b h.lt) (fun g hg => hB.block g (h.rlt g hg))
/-- A Reader's three cells. -/
theorem Rd.cells {w : World} {b : Nat} {r : Option Nat} {xs : List UInt8} {k : Nat} {err : Int} (h : Rd w b r xs k err) :
    ∃ ao c, w.cell? ⟨b, 0, none⟩ = some (.slice ao xs.length c) ∧ w.cell? ⟨b, 1, none⟩ = some (.int .i64 (k : Int)) ∧ w.cell? ⟨b, 2, none⟩ = some (.int .i64 err) ∧
      w.frozen? ⟨b, 1, none⟩ = false ∧ w.frozen? ⟨b, 2, none⟩ = false ∧ w.ownsRow 0 5 1 (.slice ao xs.length c) xs.length (bvs xs) ∧ (Value.slice ao xs.length c).ownBlock = r := by
  obtain ⟨_, v, h1, h2, h3⟩ := h
  have hc : ∀ i, w.cell? ⟨b, i, none⟩ = (#[v, .int .i64 (k : Int), .int .i64 err] : Array Value)[i]? := fun i => by simp [World.cell?, h1]
  have hf : ∀ i, w.frozen? ⟨b, i, none⟩ = false := fun i => by simp [World.frozen?, h1]
  rcases h2.2 with ⟨hv, h0⟩ | ⟨g, cap, cur, hv, _⟩
  · subst hv
    rw [h0]
    exact ⟨none, 0, hc 0, hc 1, hc 2, hf 1, hf 2, by rw [h0] at h2; exact h2, h3⟩
  · subst hv
    exact ⟨_, cap, hc 0, hc 1, hc 2, hf 1, hf 2, h2, h3⟩
theorem Rd.setAt {w : World} {b : Nat} {r : Option Nat} {xs : List UInt8} {k : Nat} {err : Int} (h : Rd w b r xs k err) (k' : Nat) (hk : k' ≤ xs.length) (x : Int) (hx : x = (k' : Int)) : Rd (w.setCell ⟨b, 1, none⟩ (.int .i64 x)) b r xs k' err := by
  subst hx
  have hne := h.ne
  obtain ⟨_, v, h1, h2, rfl⟩ := h
  refine ⟨hk, v, by simp [World.setCell, Array.getElem?_modify, h1], ⟨h2.1, ?_⟩, rfl⟩
  rcases h2.2 with h | ⟨g, cap, cur, rfl, hg, hh, rest⟩
  · exact Or.inl h
  · exact Or.inr ⟨g, cap, cur, rfl, hg, (Below.heap_setCell w _ _ g (by intro e; apply hne; simp [Value.ownBlock, e])).trans hh, rest⟩
theorem Rd.setErr {w : World} {b : Nat} {r : Option Nat} {xs : List UInt8} {k : Nat} {err : Int} (h : Rd w b r xs k err) (e' : Int) : Rd (w.setCell ⟨b, 2, none⟩ (.int .i64 e')) b r xs k e' := by
  have hne := h.ne
  obtain ⟨hk, v, h1, h2, rfl⟩ := h
  refine ⟨hk, v, by simp [World.setCell, Array.getElem?_modify, h1], ⟨h2.1, ?_⟩, rfl⟩
  rcases h2.2 with h | ⟨g, cap, cur, rfl, hg, hh, rest⟩
  · exact Or.inl h
  · exact Or.inr ⟨g, cap, cur, rfl, hg, (Below.heap_setCell w _ _ g (by intro e; apply hne; simp [Value.ownBlock, e])).trans hh, rest⟩
theorem Rd.drew {w : World} {b : Nat} {r : Option Nat} {xs : List UInt8} {k : Nat} {err : Int} (h : Rd w b r xs k err) : Rd w.drew b r xs k err := h
theorem Rd.drewN {w : World} {b : Nat} {r : Option Nat} {xs : List UInt8} {k : Nat} {err : Int} (h : Rd w b r xs k err) (n : Nat) : Rd (w.drewN n) b r xs k err := h
theorem Fr.drewN {a w : World} {b : Nat} {r : Option Nat} (h : Fr a w b r) (n : Nat) : Fr a (w.drewN n) b r := ⟨h.os, h.tape, h.output, h.size, h.block⟩

theorem err_any {w : World} {b : Nat} {r : Option Nat} {xs : List UInt8} {k : Nat} {err : Int} (h : Rd w b r xs k err) :
    Calls Tryz.prog 115 #[.pointer (some ⟨b, 0, none⟩)] w fun e w' => e = .returned (.int .i64 err) ∧ w = w' := by
  obtain ⟨ao, c, c0, c1, c2, f1, f2, _⟩ := h.cells
  go_enter Tryz.func115, Tryz.ntmps115
  go_wp2
  go_ret
  exact ⟨rfl, rfl⟩
theorem at_any {w : World} {b : Nat} {r : Option Nat} {xs : List UInt8} {k : Nat} {err : Int} (h : Rd w b r xs k err) :
    Calls Tryz.prog 139 #[.pointer (some ⟨b, 0, none⟩)] w fun e w' => e = .returned (.int .i64 (k : Int)) ∧ w = w' := by
  obtain ⟨ao, c, c0, c1, c2, f1, f2, _⟩ := h.cells
  go_enter Tryz.func139, Tryz.ntmps139
  go_wp2
  go_ret
  exact ⟨rfl, rfl⟩
/-- Fail keeps the first error. -/
theorem fail_no {w : World} {b : Nat} {r : Option Nat} {xs : List UInt8} {k : Nat} {err : Int} (h : Rd w b r xs k err) (he : err ≠ 0) (e' : Int) :
    Calls Tryz.prog 111 #[.pointer (some ⟨b, 0, none⟩), .int .i64 e'] w fun e w' => e = .returned (.tuple #[]) ∧ w = w' := by
  obtain ⟨ao, c, c0, c1, c2, f1, f2, _⟩ := h.cells
  have hb : (err == 0) = false := by simpa using he
  go_enter Tryz.func111, Tryz.ntmps111
  go_wp2
  go_end0
  exact ⟨rfl, rfl⟩
theorem fail_yes {w : World} {b : Nat} {r : Option Nat} {xs : List UInt8} {k : Nat} (h : Rd w b r xs k 0) (e' : Int) :
    Calls Tryz.prog 111 #[.pointer (some ⟨b, 0, none⟩), .int .i64 e'] w fun e w' => e = .returned (.tuple #[]) ∧ w.setCell ⟨b, 2, none⟩ (.int .i64 e') = w' := by
  obtain ⟨ao, c, c0, c1, c2, f1, f2, _⟩ := h.cells
  go_enter Tryz.func111, Tryz.ntmps111
  go_wp2
  go_end0
  exact ⟨rfl, rfl⟩
/-- What Fail makes of an error. -/
def fe (err e' : Int) : Int := if err = 0 then e' else err
theorem fail_any {w : World} {b : Nat} {r : Option Nat} {xs : List UInt8} {k : Nat} {err : Int} (h : Rd w b r xs k err) (e' : Int) :
    Calls Tryz.prog 111 #[.pointer (some ⟨b, 0, none⟩), .int .i64 e'] w fun e w' => e = .returned (.tuple #[]) ∧ Rd w' b r xs k (fe err e') ∧ Fr w w' b none := by
  unfold fe
  by_cases he : err = 0
  · subst he
    refine (fail_yes h e').mono ?_
    rintro e w' ⟨rfl, rfl⟩
    exact ⟨rfl, h.setErr e', (Fr.refl w b none).set 2 _⟩
  · rw [if_neg he]
    refine (fail_no h he e').mono ?_
    rintro e w' ⟨rfl, rfl⟩
    exact ⟨rfl, h, Fr.refl w b none⟩
/-- Left, without an error and behind one. -/
theorem left_ok {w : World} {b : Nat} {r : Option Nat} {xs : List UInt8} {k : Nat} (h : Rd w b r xs k 0) (hsz : xs.length ≤ 140737488355328) :
    Calls Tryz.prog 116 #[.pointer (some ⟨b, 0, none⟩)] w fun e w' => e = .returned (.int .i64 ((xs.length - k : Nat) : Int)) ∧ ∃ n, w' = w.drewN n := by
  obtain ⟨ao, c, c0, c1, c2, f1, f2, _⟩ := h.cells
  have hk := h.1
  go_enter Tryz.func116, Tryz.ntmps116
  go_wp2
  go_quiet (fail)
  go_wp2
  go_ret
  exact ⟨ret_int (by omega), _, rfl⟩
theorem left_err {w : World} {b : Nat} {r : Option Nat} {xs : List UInt8} {k : Nat} {err : Int} (h : Rd w b r xs k err) (he : err ≠ 0) :
    Calls Tryz.prog 116 #[.pointer (some ⟨b, 0, none⟩)] w fun e w' => e = .returned (.int .i64 0) ∧ w = w' := by
  obtain ⟨ao, c, c0, c1, c2, f1, f2, _⟩ := h.cells
  have hb : (err != 0) = true := by simpa using he
  go_enter Tryz.func116, Tryz.ntmps116
  go_wp2
  go_ret
  exact ⟨rfl, rfl⟩
end Go.Proofs.YtnfobnnbeefeeaaGreatDoor.Wi
/- What a Reader's call next leaves: the next so many bytes, or what went wrong. -/
namespace Go.Proofs.YtnfobnnbeefeeaaGreatDoor.Wi
open Go Go.RowKit
set_option linter.unusedVariables false

/-- What is read, how far it is read then, and the error. -/
def nx (xs : List UInt8) (k : Nat) (err : Int) (n : Nat) : List UInt8 × Nat × Int :=
  if err ≠ 0 then ([], k, err) else if k + n ≤ xs.length then ((xs.drop k).take n, k + n, 0) else ([], k, 6)

/-- A slice value that reads as bytes, below a block. -/
def Sl (w : World) (v : Value) (ys : List UInt8) : Prop :=
  ∃ ao c, v = .slice ao ys.length c ∧ (ao = none → ys = []) ∧ ∀ a, ao = some a → ∀ j u, (bvs ys)[j]? = some u → w.cell? (a.add j) = some u

theorem next_err {w : World} {b : Nat} {r : Option Nat} {xs : List UInt8} {k : Nat} {err : Int} (h : Rd w b r xs k err) (he : err ≠ 0) (n : Nat) (hn : n ≤ 1000000) (hsz : xs.length ≤ 140737488355328) :
    Calls Tryz.prog 138 #[.pointer (some ⟨b, 0, none⟩), .int .i64 (n : Int)] w fun e w' => e = .returned (.slice none 0 0) ∧ ∃ n, w' = w.drewN n := by
  obtain ⟨ao, c, c0, c1, c2, f1, f2, _⟩ := h.cells
  have hk := h.1
  have hb : (err != 0) = true := by simpa using he
  by_cases hl : n ≤ xs.length - k
  · have hl' : ¬ ((xs.length : Int) - (k : Int) < (n : Int)) := by omega
    go_enter Tryz.func138, Tryz.ntmps138
    go_wp2
    go_quiet (fail)
    go_wp2
    go_ret
    exact ⟨rfl, _, rfl⟩
  · have hl' : (xs.length : Int) - (k : Int) < (n : Int) := by omega
    go_enter Tryz.func138, Tryz.ntmps138
    go_wp2
    go_quiet (fail)
    go_wp2_with (go_at_call 111; refine (fail_no (h.drewN _) he _).mono ?_; rintro e w2 ⟨rfl, rfl⟩)
    go_ret
    exact ⟨rfl, _, rfl⟩

theorem next_short {w : World} {b : Nat} {r : Option Nat} {xs : List UInt8} {k : Nat} (h : Rd w b r xs k 0) (n : Nat) (hn : n ≤ 1000000) (hl : xs.length < k + n) (hsz : xs.length ≤ 140737488355328) :
    Calls Tryz.prog 138 #[.pointer (some ⟨b, 0, none⟩), .int .i64 (n : Int)] w fun e w' => e = .returned (.slice none 0 0) ∧ ∃ n, w' = (w.drewN n).setCell ⟨b, 2, none⟩ (.int .i64 6) := by
  obtain ⟨ao, c, c0, c1, c2, f1, f2, _⟩ := h.cells
  have hk := h.1
  have hl' : (xs.length : Int) - (k : Int) < (n : Int) := by omega
  go_enter Tryz.func138, Tryz.ntmps138
  go_wp2
  go_quiet (fail)
  go_wp2_with (go_at_call 111; refine (fail_yes (h.drewN _) _).mono ?_; rintro e w2 ⟨rfl, rfl⟩)
  go_ret
  exact ⟨rfl, _, rfl⟩

set_option maxRecDepth 100000 in
set_option maxHeartbeats 1600000 in
theorem next_ok {w : World} {b : Nat} {r : Option Nat} {xs : List UInt8} {k : Nat} (h : Rd w b r xs k 0) (n : Nat) (hn : n ≤ 1000000) (hl : k + n ≤ xs.length) (hsz : xs.length ≤ 140737488355328) :
    Calls Tryz.prog 138 #[.pointer (some ⟨b, 0, none⟩), .int .i64 (n : Int)] w fun e w' => ∃ v, e = .returned v ∧ Sl w' v ((xs.drop k).take n) ∧ Rd w' b r xs (k + n) 0 ∧ Fr w w' b none := by
  obtain ⟨ao, c, c0, c1, c2, f1, f2, hown, hr⟩ := h.cells
  have hk := h.1
  have hl' : ¬ ((xs.length : Int) - (k : Int) < (n : Int)) := by omega
  have hcap : xs.length ≤ c ∧ c ≤ 9223372036854775807 := by
    rcases hown.2 with ⟨e, e0⟩ | ⟨g, cap, cur, e, _, _, h1, h2, _⟩
    · injection e with _ _ e1; omega
    · injection e with _ _ e1; unfold maxLen at h2; omega
  obtain ⟨hc1, hc2⟩ := hcap
  by_cases hck : c = k
  · subst hck
    obtain rfl : n = 0 := by omega
    go_enter Tryz.func138, Tryz.ntmps138
    go_wp2
    go_quiet (fail)
    go_wp2
    go_quiet (fail)
    go_wp2
    go_ret
    refine ⟨_, rfl, ?_, by simpa using ((h.drewN _).setAt c (by omega) _ rfl), (((Fr.refl w b none).drewN _).set 1 _)⟩
    simp only [List.take_zero]
    exact ⟨ao, 0, rfl, fun _ => rfl, fun a _ j u hu => by simp [bvs] at hu⟩
  · obtain ⟨g, rfl⟩ : ∃ g, ao = some ⟨g, 0, none⟩ := by
      rcases hown.2 with ⟨e, e0⟩ | ⟨g, cap, cur, e, _⟩
      · injection e with _ _ e1; omega
      · injection e with e1; exact ⟨g, e1⟩
    have hcells := hown.cells (g := g) rfl
    have HC := Lib.hid hcells
    clear hcells hown
    have w1 : IntKind.i64.wrap ((k : Int) + (n : Int)) = (k : Int) + (n : Int) := IntWalk.i64_in _ (by omega)
    have w2 : (0 : Int) ≤ (k : Int) + (n : Int) := by omega
    have w3 : ((k : Int) + (n : Int)).toNat = k + n := by omega
    have w4 : k ≤ k + n := by omega
    have w5 : k + n ≤ c := by omega
    have w6 : (0 : Int) ≤ (k : Int) := by omega
    go_enter Tryz.func138, Tryz.ntmps138
    go_wp2
    go_quiet (fail)
    go_wp2
    go_quiet (fail)
    go_wp2
    go_ret
    have hgb : g ≠ b := by
      intro e
      subst e
      exact h.ne hr.symm
    have hln : ((xs.drop k).take n).length = n := by simp; omega
    refine ⟨_, rfl, ⟨some ⟨g, k, none⟩, c - k, (by rw [hln]; rfl), (fun h => by cases h), ?_⟩, (h.drewN _).setAt (k + n) hl _ (by omega), (((Fr.refl w b none).drewN _).set 1 _)⟩
    intro a ha j u hu
    cases ha
    have hj : j < n := by
      have := (List.getElem?_eq_some_iff.1 hu).1
      rw [bvs_length, hln] at this
      exact this
    rw [Addr.add_lit, World.cell?_setCell_other _ _ _ _ (fun e => by have e := congrArg Addr.block e; first | exact hgb e | exact hgb e.symm)]
    have := HC.out (k + j) u (by
      rw [← hu]
      simp [bvs, hj, List.getElem?_drop])
    rw [Addr.add_lit] at this
    simpa using this

/-- All three. -/
theorem next_any {w : World} {b : Nat} {r : Option Nat} {xs : List UInt8} {k : Nat} {err : Int} (h : Rd w b r xs k err) (n : Nat) (hn : n ≤ 1000000) (hsz : xs.length ≤ 140737488355328) :
    Calls Tryz.prog 138 #[.pointer (some ⟨b, 0, none⟩), .int .i64 (n : Int)] w fun e w' => ∃ v, e = .returned v ∧ Sl w' v (nx xs k err n).1 ∧ Rd w' b r xs (nx xs k err n).2.1 (nx xs k err n).2.2 ∧ Fr w w' b none := by
  have nil : ∀ W : World, Sl W (.slice none 0 0) [] := fun W => ⟨none, 0, rfl, fun _ => rfl, fun a h => by cases h⟩
  unfold nx
  by_cases he : err = 0
  · subst he
    by_cases hl : k + n ≤ xs.length
    · simp only [ne_eq, not_true_eq_false, if_false, if_pos hl]
      exact next_ok h n hn hl hsz
    · simp only [ne_eq, not_true_eq_false, if_false, if_neg hl]
      refine (next_short h n hn (by omega) hsz).mono ?_
      rintro e w' ⟨rfl, m, rfl⟩
      exact ⟨_, rfl, nil _, (h.drewN m).setErr 6, ((Fr.refl w b none).drewN m).set 2 _⟩
  · simp only [ne_eq, he, not_false_eq_true, if_true]
    refine (next_err h he n hn hsz).mono ?_
    rintro e w' ⟨rfl, m, rfl⟩
    exact ⟨_, rfl, nil _, h.drewN m, (Fr.refl w b none).drewN m⟩
end Go.Proofs.YtnfobnnbeefeeaaGreatDoor.Wi
/- What a Reader's calls Byte, digits, Num, Int, Count, Text and End leave. -/
namespace Go.Proofs.YtnfobnnbeefeeaaGreatDoor.Wi
open Go Go.RowKit
set_option linter.unusedVariables false

/-- The next byte. -/
def rb (xs : List UInt8) (k : Nat) (err : Int) : UInt8 × Nat × Int :=
  if err ≠ 0 then (0, k, err) else if k < xs.length then (xs.getD k 0, k + 1, 0) else (0, k, 6)

theorem nx_one_ok {xs : List UInt8} {k : Nat} (h : k < xs.length) : nx xs k 0 1 = ([xs.getD k 0], k + 1, 0) := by
  have e : (xs.drop k).take 1 = [xs.getD k 0] := by
    rw [List.drop_eq_getElem_cons h, List.take_succ_cons, List.take_zero]
    simp [List.getD, h]
  simp [nx, e]; omega
theorem nx_one_short {xs : List UInt8} {k : Nat} (h : xs.length ≤ k) : nx xs k 0 1 = ([], k, 6) := by
  simp [nx]; omega
theorem nx_err {xs : List UInt8} {k n : Nat} {err : Int} (h : err ≠ 0) : nx xs k err n = ([], k, err) := by simp [nx, h]

set_option maxHeartbeats 800000 in
theorem rbyte_any {w : World} {b : Nat} {r : Option Nat} {xs : List UInt8} {k : Nat} {err : Int} (h : Rd w b r xs k err) (hsz : xs.length ≤ 140737488355328) :
    Calls Tryz.prog 112 #[.pointer (some ⟨b, 0, none⟩)] w fun e w' => e = .returned (bv (rb xs k err).1) ∧ Rd w' b r xs (rb xs k err).2.1 (rb xs k err).2.2 ∧ Fr w w' b none := by
  have N := next_any h 1 (by omega) hsz
  by_cases he : err = 0
  · subst he
    by_cases hl : k < xs.length
    · rw [nx_one_ok hl] at N
      have e : rb xs k 0 = (xs.getD k 0, k + 1, 0) := by simp [rb, hl]
      rw [e]
      generalize xs.getD k 0 = y at N ⊢
      have HN := Lib.hid N
      clear e N
      go_enter Tryz.func112, Tryz.ntmps112
      go_wp2_with fail
      refine (HN.out).mono ?_
      rintro e w2 ⟨v, rfl, ⟨ao, c, rfl, hno, hs⟩, hR, hF⟩
      obtain ⟨ax, cx, c0, c1, c2, f1, f2, _⟩ := hR.cells
      obtain ⟨ad, rfl⟩ : ∃ ad, ao = some ad := by
        cases ao with
        | none => exact absurd (hno rfl) (by simp)
        | some ad => exact ⟨ad, rfl⟩
      have hc : w2.cell? ad = some (bv y) := by
        have := hs ad rfl 0 _ (by simp [bvs]; rfl)
        simpa [Addr.add] using this
      go_wp2
      go_ret
      exact ⟨rfl, hR, hF⟩
    · rw [nx_one_short (by omega)] at N
      have e : rb xs k 0 = (0, k, 6) := by simp [rb, hl]
      rw [e]
      have HN := Lib.hid N
      clear e N
      go_enter Tryz.func112, Tryz.ntmps112
      go_wp2_with fail
      refine (HN.out).mono ?_
      rintro e w2 ⟨v, rfl, ⟨ao, c, rfl, hno, hs⟩, hR, hF⟩
      obtain ⟨ax, cx, c0, c1, c2, f1, f2, _⟩ := hR.cells
      go_wp2
      go_ret
      exact ⟨rfl, hR, hF⟩
  · rw [nx_err he] at N
    have e : rb xs k err = (0, k, err) := by simp [rb, he]
    rw [e]
    have HN := Lib.hid N
    have hb : (err != 0) = true := by simpa using he
    clear e N
    go_enter Tryz.func112, Tryz.ntmps112
    go_wp2_with fail
    refine (HN.out).mono ?_
    rintro e w2 ⟨v, rfl, ⟨ao, c, rfl, hno, hs⟩, hR, hF⟩
    obtain ⟨ax, cx, c0, c1, c2, f1, f2, _⟩ := hR.cells
    go_wp2
    go_ret
    exact ⟨rfl, hR, hF⟩
end Go.Proofs.YtnfobnnbeefeeaaGreatDoor.Wi
/- What a Reader's call digits leaves. -/
namespace Go.Proofs.YtnfobnnbeefeeaaGreatDoor.Wi
open Go Go.RowKit
set_option linter.unusedVariables false

/-- Whether a digit mayn't stand there. -/
def bad (i d : Nat) : Bool := (decide (0 < i) && d == 0) || (i == 9 && decide (1 < d))
/-- The digits from the i-th on, what was gathered, how far it was read and the error. -/
def dg : Nat → List UInt8 → Nat → Int → Nat → Nat → Nat × Nat × Int
  | 0, _, k, err, _, n => (n, k, err)
  | f + 1, xs, k, err, i, n =>
    let x := rb xs k err
    let e2 := if bad i x.1.toNat && x.2.2 == 0 then 8 else x.2.2
    let n' := (n + (x.1.toNat % 128 * 2 ^ (7 * i)) % 18446744073709551616) % 18446744073709551616
    if x.1.toNat < 128 || e2 != 0 then (n', x.2.1, e2) else dg f xs x.2.1 e2 (i + 1) n'

/-- What is told of a number's digits. -/
def DgPost (w : World) (b : Nat) (r : Option Nat) (xs : List UInt8) (X : Nat × Nat × Int) (e : Ending) (w' : World) : Prop :=
  e = .returned (.int .u64 (X.1 : Int)) ∧ Rd w' b r xs X.2.1 X.2.2 ∧ Fr w w' b none
def DgRel (w : World) (b : Nat) (r : Option Nat) (xs : List UInt8) (X : Nat × Nat × Int) (u c : Value) (wr : World) : Prop :=
  ∃ (f i n k' : Nat) (err' : Int), c = .int .i64 (i : Int) ∧ u = .int .u64 (n : Int) ∧ i + f = 10 ∧ n < 18446744073709551616 ∧ Rd wr b r xs k' err' ∧ Fr w wr b none ∧ X = dg f xs k' err' i n

theorem bad_zero {i d : Nat} (hi : 0 < i) (q : d = 0) : bad i d = true := by simp [bad, hi, q]
theorem bad_mid {i d : Nat} (hi : i < 9) (q : ¬ d = 0) : bad i d = false := by simp [bad, q]; omega
theorem bad_first (d : Nat) : bad 0 d = false := by simp [bad]
theorem bad_nine {d : Nat} (q1 : ¬ d = 0) (q : ((d : Int) == 0) = true ∨ (1 : Int) < (d : Int)) : bad 9 d = true := by
  simp at q
  simp [bad]; omega
theorem good_nine {d : Nat} (q1 : ¬ d = 0) (q : ((d : Int) == 0) = false ∧ (d : Int) ≤ 1) : bad 9 d = false := by
  simp [bad, q1]; omega
theorem E_bad {i d : Nat} {e1 : Int} (h : bad i d = true) : fe e1 8 = if bad i d && e1 == 0 then 8 else e1 := by simp [h, fe]
theorem E_good {i d : Nat} {e1 : Int} (h : bad i d = false) : e1 = if bad i d && e1 == 0 then 8 else e1 := by simp [h]
theorem stop_a {d : Nat} {E : Int} (q : (d : Int) < 128) : d < 128 ∨ E ≠ 0 := Or.inl (by omega)
theorem stop_b {d : Nat} {E : Int} (q : (d : Int) < 128 ∨ (E != 0) = true) : d < 128 ∨ E ≠ 0 := by
  rcases q with q | q
  · exact Or.inl (by omega)
  · exact Or.inr (by simpa using q)
theorem stop_c {d : Nat} {E : Int} (q : d = 0) : d < 128 ∨ E ≠ 0 := Or.inl (by omega)
theorem dg_stop {X : Nat × Nat × Int} {f i n k' k1 : Nat} {err' e1 E : Int} {xs : List UInt8} {d : UInt8} (hx : (d, k1, e1) = rb xs k' err') (hX : X = dg (f + 1) xs k' err' i n)
    (hE : E = if bad i d.toNat && e1 == 0 then 8 else e1) (hs : d.toNat < 128 ∨ E ≠ 0) :
    X = ((n + (d.toNat % 128 * 2 ^ (7 * i)) % 18446744073709551616) % 18446744073709551616, k1, E) := by
  rw [hX, dg]
  simp only [← hx, ← hE]
  rw [if_pos (by simpa using hs)]
theorem dg_go {X : Nat × Nat × Int} {f i n k' k1 : Nat} {err' e1 E : Int} {xs : List UInt8} {d : UInt8} (hx : (d, k1, e1) = rb xs k' err') (hX : X = dg (f + 1) xs k' err' i n)
    (hE : E = if bad i d.toNat && e1 == 0 then 8 else e1) (hg : 128 ≤ (d.toNat : Int) ∧ (E != 0) = false) :
    X = dg f xs k1 E (i + 1) ((n + (d.toNat % 128 * 2 ^ (7 * i)) % 18446744073709551616) % 18446744073709551616) := by
  rw [hX, dg]
  simp only [← hx, ← hE]
  rw [if_neg (by simp at hg; simp; omega)]
theorem post_of {w w' : World} {b : Nat} {r : Option Nat} {xs : List UInt8} {X : Nat × Nat × Int} {m : Int} {n k1 : Nat} {E : Int} (hX : X = (n, k1, E)) (hm : m = (n : Int)) (hR : Rd w' b r xs k1 E) (hF : Fr w w' b none) :
    DgPost w b r xs X (.returned (.int .u64 m)) w' := by
  subst hX hm
  exact ⟨rfl, hR, hF⟩
set_option maxRecDepth 100000 in
set_option maxHeartbeats 16000000 in
theorem digits_post {w : World} {b : Nat} {r : Option Nat} {xs : List UInt8} {k : Nat} {err : Int} (h : Rd w b r xs k err) (hsz : xs.length ≤ 140737488355328) (X : Nat × Nat × Int) (hX : Hid (X = dg 10 xs k err 0 0)) :
    Calls Tryz.prog 110 #[.pointer (some ⟨b, 0, none⟩)] w (DgPost w b r xs X) := by
  go_enter Tryz.func110, Tryz.ntmps110
  go_wp2
  go_loopw [3, 6] (fun u c wr => DgRel w b r xs X u c wr) (fun _ c _ => 10 - (intOf c).toNat)
  case atStart => exact ⟨10, 0, 0, k, err, rfl, rfl, rfl, by decide, h, Fr.refl _ _ _, hX.out⟩
  case round =>
    obtain ⟨f, i, n, k', err', rfl, rfl, hf, hn, hR, hF, hdg⟩ := hrel
    cases f with
    | zero =>
      obtain rfl : i = 10 := by omega
      have HD := Lib.hid hdg
      clear hdg
      go_wp2
      go_ret
      rw [HD.out]
      exact ⟨rfl, hR, hF⟩
    | succ f =>
      have hi : i < 10 := by omega
      have B := rbyte_any hR hsz
      obtain ⟨x, hx⟩ : ∃ x, x = rb xs k' err' := ⟨_, rfl⟩
      obtain ⟨d, k1, e1⟩ := x
      rw [← hx] at B
      have HD := Lib.hid hdg
      have HX := Lib.hid hx
      have HB := Lib.hid B
      clear hdg hx B
      go_wp2_with fail
      refine (HB.out).mono ?_
      rintro e w2 ⟨rfl, hR2, hF2⟩
      obtain ⟨ax, cx, c0, c1, c2, f1, f2, _⟩ := hR2.cells
      have hd : d.toNat < 256 := d.toNat_lt
      have FA := Lib.hid (fun W hW => fail_any (w := W) (b := b) (r := r) (xs := xs) (k := k1) (err := e1) hW 8)
      obtain rfl | rfl | rfl | rfl | rfl | rfl | rfl | rfl | rfl | rfl : i = 0 ∨ i = 1 ∨ i = 2 ∨ i = 3 ∨ i = 4 ∨ i = 5 ∨ i = 6 ∨ i = 7 ∨ i = 8 ∨ i = 9 := by omega
      all_goals
        unfold bv
        go_wp2_with (go_at_call 111; refine (FA.out _ hR2).mono ?_; rintro e w3 ⟨rfl, hR3, hF3⟩; obtain ⟨ax3, cx3, c30, c31, c32, f31, f32, _⟩ := hR3.cells)
      all_goals first
        | (go_ret; first
          | exact post_of (dg_stop HX.out HD.out (E_good (by first | exact bad_first _ | exact bad_mid (by decide) (by assumption) | exact good_nine (by assumption) (by assumption))) (by first | exact stop_a (by assumption) | exact stop_b (by assumption) | exact stop_c (by assumption))) (by simp only [Nat.reduceMul, Nat.reducePow, IntKind.wrap_u64]; omega) hR2 (hF.trans (Or.inl rfl) hF2)
          | exact post_of (dg_stop HX.out HD.out (E_bad (by first | exact bad_zero (by decide) (by assumption) | exact bad_nine (by assumption) (by assumption))) (by first | exact stop_a (by assumption) | exact stop_b (by assumption) | exact stop_c (by assumption))) (by simp only [Nat.reduceMul, Nat.reducePow, IntKind.wrap_u64]; omega) hR3 ((hF.trans (Or.inl rfl) hF2).trans (Or.inl rfl) hF3))
        | (go_roundw
           case rel =>
            first
            | exact ⟨f, _, _, k1, e1, by go_num, by simp only [Nat.reduceMul, Nat.reducePow, IntKind.wrap_u64]; go_num, by omega, by omega, hR2, hF.trans (Or.inl rfl) hF2, dg_go HX.out HD.out (E_good (by first | exact bad_first _ | exact bad_mid (by decide) (by assumption) | exact good_nine (by assumption) (by assumption))) (by assumption)⟩
            | exact ⟨f, _, _, k1, _, by go_num, by simp only [Nat.reduceMul, Nat.reducePow, IntKind.wrap_u64]; go_num, by omega, by omega, hR3, (hF.trans (Or.inl rfl) hF2).trans (Or.inl rfl) hF3, dg_go HX.out HD.out (E_bad (by first | exact bad_zero (by decide) (by assumption) | exact bad_nine (by assumption) (by assumption))) (by assumption)⟩
           case measure => simp [intOf])
end Go.Proofs.YtnfobnnbeefeeaaGreatDoor.Wi
/- What a Reader's calls Num, Int, Count, Text, Left and End leave. -/
namespace Go.Proofs.YtnfobnnbeefeeaaGreatDoor.Wi
open Go Go.RowKit
set_option linter.unusedVariables false

/-- The next number, at most so much. -/
def rn (xs : List UInt8) (k : Nat) (err : Int) (most : Nat) : Nat × Nat × Int :=
  let x := dg 10 xs k err 0 0
  let e2 := if most < x.1 then fe x.2.2 2 else x.2.2
  (if e2 = 0 then x.1 else 0, x.2.1, e2)

def NumPost (w : World) (b : Nat) (r : Option Nat) (xs : List UInt8) (X : Nat × Nat × Int) (e : Ending) (w' : World) : Prop :=
  e = .returned (.int .u64 (X.1 : Int)) ∧ Rd w' b r xs X.2.1 X.2.2 ∧ Fr w w' b none

set_option maxRecDepth 100000 in
set_option maxHeartbeats 1600000 in
theorem rnum_any {w : World} {b : Nat} {r : Option Nat} {xs : List UInt8} {k : Nat} {err : Int} (h : Rd w b r xs k err) (hsz : xs.length ≤ 140737488355328) (most : Nat) (hm : most < 18446744073709551616) :
    Calls Tryz.prog 77 #[.pointer (some ⟨b, 0, none⟩), .int .u64 (most : Int)] w (NumPost w b r xs (rn xs k err most)) := by
  obtain ⟨X, hX⟩ : ∃ X, X = dg 10 xs k err 0 0 := ⟨_, rfl⟩
  have D := digits_post h hsz X hX
  have hrn : rn xs k err most = (if (if most < X.1 then fe X.2.2 2 else X.2.2) = 0 then X.1 else 0, X.2.1, if most < X.1 then fe X.2.2 2 else X.2.2) := by rw [rn, ← hX]
  rw [hrn]
  clear hrn hX
  obtain ⟨n, k1, e1⟩ := X
  dsimp only
  by_cases hl : most < n
  · rw [if_pos hl]
    have HL := Lib.hid hl
    have hli : (most : Int) < (n : Int) := by omega
    by_cases he : fe e1 2 = 0
    · rw [if_pos he]
      have HE := Lib.hid he
      have hb : (fe e1 2 != 0) = false := by simpa using he
      clear hl he
      go_enter Tryz.func77, Tryz.ntmps77
      go_wp2_with fail
      refine D.mono ?_
      rintro e w2 ⟨rfl, hR2, hF2⟩
      dsimp only at hR2
      go_wp2_with fail
      refine (fail_any hR2 2).mono ?_
      rintro e w3 ⟨rfl, hR3, hF3⟩
      obtain ⟨ax, cx, c0, c1, c2, f1, f2, _⟩ := hR3.cells
      go_wp2
      go_ret
      exact ⟨rfl, hR3, hF2.trans (Or.inl rfl) hF3⟩
    · rw [if_neg he]
      have hb : (fe e1 2 != 0) = true := by simpa using he
      clear hl he
      go_enter Tryz.func77, Tryz.ntmps77
      go_wp2_with fail
      refine D.mono ?_
      rintro e w2 ⟨rfl, hR2, hF2⟩
      dsimp only at hR2
      go_wp2_with fail
      refine (fail_any hR2 2).mono ?_
      rintro e w3 ⟨rfl, hR3, hF3⟩
      obtain ⟨ax, cx, c0, c1, c2, f1, f2, _⟩ := hR3.cells
      go_wp2
      go_ret
      exact ⟨rfl, hR3, hF2.trans (Or.inl rfl) hF3⟩
  · rw [if_neg hl]
    have hli : (n : Int) ≤ (most : Int) := by omega
    by_cases he : e1 = 0
    · rw [if_pos he]
      have HE := Lib.hid he
      have hb : (e1 != 0) = false := by simpa using he
      clear hl he
      go_enter Tryz.func77, Tryz.ntmps77
      go_wp2_with fail
      refine D.mono ?_
      rintro e w2 ⟨rfl, hR2, hF2⟩
      dsimp only at hR2
      obtain ⟨ax, cx, c0, c1, c2, f1, f2, _⟩ := hR2.cells
      go_wp2
      go_ret
      exact ⟨rfl, hR2, hF2⟩
    · rw [if_neg he]
      have hb : (e1 != 0) = true := by simpa using he
      clear hl he
      go_enter Tryz.func77, Tryz.ntmps77
      go_wp2_with fail
      refine D.mono ?_
      rintro e w2 ⟨rfl, hR2, hF2⟩
      dsimp only at hR2
      obtain ⟨ax, cx, c0, c1, c2, f1, f2, _⟩ := hR2.cells
      go_wp2
      go_ret
      exact ⟨rfl, hR2, hF2⟩

theorem i64_not_pos {a : Int} (h0 : 0 ≤ a) (h1 : a < 9223372036854775808) : bits .xor .i64 (-1) a = -1 - a := by
  show IntKind.i64.wrap ((BitVec.ofInt 64 (-1) ^^^ BitVec.ofInt 64 a).toNat : Int) = _
  have e : BitVec.ofInt 64 (-1) = BitVec.allOnes 64 := by decide
  rw [e, BitVec.allOnes_xor, BitVec.toNat_not, BitVec.toNat_ofInt]
  simp [IntKind.wrap, IntKind.bits, IntKind.signed]
  omega

theorem unfold_any (u : Nat) (w : World) (hu : u < 18446744073709551616) :
    Calls Tryz.prog 171 #[.int .u64 (u : Int)] w fun e w' => e = .returned (.int .i64 (zag u)) ∧ w = w' := by
  have hq : 0 ≤ (u : Int) / 2 ∧ (u : Int) / 2 < 9223372036854775808 := by omega
  by_cases ho : u % 2 = 1
  · have hz : zag u = -1 - (u : Int) / 2 := by unfold zag; rw [if_pos ho]; omega
    have hx := i64_not_pos hq.1 hq.2
    have hb : (((u : Int) % 2) == 1) = true := by simp; omega
    rw [hz]
    clear hz ho
    go_enter Tryz.func171, Tryz.ntmps171
    go_wp2
    all_goals (go_ret; exact ⟨rfl, rfl⟩)
  · have hz : zag u = (u : Int) / 2 := by unfold zag; rw [if_neg ho]; omega
    have hb : (((u : Int) % 2) == 1) = false := by simp; omega
    rw [hz]
    clear hz ho
    go_enter Tryz.func171, Tryz.ntmps171
    go_wp2
    all_goals (go_ret; exact ⟨rfl, rfl⟩)
end Go.Proofs.YtnfobnnbeefeeaaGreatDoor.Wi
/- What a Reader's calls Int, Count, Text, Left and End leave, and what Read makes; a Writer's Text. -/
namespace Go.Proofs.YtnfobnnbeefeeaaGreatDoor.Wi
open Go Go.RowKit
set_option linter.unusedVariables false

theorem dg_lt (f : Nat) : ∀ (xs : List UInt8) (k : Nat) (err : Int) (i n : Nat), n < 18446744073709551616 → (dg f xs k err i n).1 < 18446744073709551616 := by
  induction f with
  | zero => intro xs k err i n h; exact h
  | succ f ih =>
    intro xs k err i n h
    dsimp only [dg]
    generalize (if (bad i (rb xs k err).1.toNat && (rb xs k err).2.2 == 0) = true then (8 : Int) else (rb xs k err).2.2) = E
    by_cases c : (decide ((rb xs k err).1.toNat < 128) || E != 0) = true
    · rw [if_pos c]; exact Nat.mod_lt _ (Nat.zero_lt_succ _)
    · rw [if_neg c]; exact ih _ _ _ _ _ (Nat.mod_lt _ (Nat.zero_lt_succ _))
theorem fe_ne (e : Int) : fe e 2 ≠ 0 := by unfold fe; split <;> omega
theorem rn_of (xs : List UInt8) (k : Nat) (err : Int) (most : Nat) : (rn xs k err most).1 = (dg 10 xs k err 0 0).1 ∧ (dg 10 xs k err 0 0).1 ≤ most ∨ (rn xs k err most).1 = 0 := by
  dsimp only [rn]
  by_cases h : most < (dg 10 xs k err 0 0).1
  · rw [if_pos h, if_neg (fe_ne _)]; exact Or.inr rfl
  · rw [if_neg h]
    by_cases e : (dg 10 xs k err 0 0).2.2 = 0
    · rw [if_pos e]; exact Or.inl ⟨rfl, by omega⟩
    · rw [if_neg e]; exact Or.inr rfl
theorem rn_lt (xs : List UInt8) (k : Nat) (err : Int) (most : Nat) : (rn xs k err most).1 < 18446744073709551616 := by
  have := dg_lt 10 xs k err 0 0 (Nat.zero_lt_succ _)
  rcases rn_of xs k err most with ⟨h, _⟩ | h <;> omega
theorem rn_le (xs : List UInt8) (k : Nat) (err : Int) (most : Nat) : (rn xs k err most).1 ≤ most := by
  rcases rn_of xs k err most with ⟨h, _⟩ | h <;> omega

def IntPost (w : World) (b : Nat) (r : Option Nat) (xs : List UInt8) (X : Nat × Nat × Int) (e : Ending) (w' : World) : Prop :=
  e = .returned (.int .i64 (zag X.1)) ∧ Rd w' b r xs X.2.1 X.2.2 ∧ Fr w w' b none
theorem rint_any {w : World} {b : Nat} {r : Option Nat} {xs : List UInt8} {k : Nat} {err : Int} (h : Rd w b r xs k err) (hsz : xs.length ≤ 140737488355328) :
    Calls Tryz.prog 156 #[.pointer (some ⟨b, 0, none⟩)] w (IntPost w b r xs (rn xs k err 18446744073709551615)) := by
  have N := rnum_any h hsz 18446744073709551615 (by decide)
  have hl := rn_lt xs k err 18446744073709551615
  generalize rn xs k err 18446744073709551615 = X at N hl ⊢
  have U := fun W => unfold_any X.1 W hl
  have HN := Lib.hid N
  have HU := Lib.hid U
  clear N U hl
  go_enter Tryz.func156, Tryz.ntmps156
  go_wp2_with fail
  refine HN.out.mono ?_
  rintro e w2 ⟨rfl, hR2, hF2⟩
  go_wp2_with fail
  refine (HU.out _).mono ?_
  rintro e w3 ⟨rfl, rfl⟩
  go_wp2_with fail
  go_ret
  exact ⟨rfl, hR2, hF2⟩

def CountPost (w : World) (b : Nat) (r : Option Nat) (xs : List UInt8) (X : Nat × Nat × Int) (e : Ending) (w' : World) : Prop :=
  e = .returned (.int .i64 (X.1 : Int)) ∧ Rd w' b r xs X.2.1 X.2.2 ∧ Fr w w' b none
theorem rcount_any {w : World} {b : Nat} {r : Option Nat} {xs : List UInt8} {k : Nat} {err : Int} (h : Rd w b r xs k err) (hsz : xs.length ≤ 140737488355328) :
    Calls Tryz.prog 172 #[.pointer (some ⟨b, 0, none⟩)] w (CountPost w b r xs (rn xs k err 4096)) := by
  have N := rnum_any h hsz 4096 (by decide)
  have hl := rn_le xs k err 4096
  generalize rn xs k err 4096 = X at N hl ⊢
  have HN := Lib.hid N
  clear N
  go_enter Tryz.func172, Tryz.ntmps172
  go_wp2_with fail
  refine HN.out.mono ?_
  rintro e w2 ⟨rfl, hR2, hF2⟩
  go_wp2_with fail
  go_ret
  exact ⟨rfl, hR2, hF2⟩

/-- A slice that reads as bytes, made a string. -/
def str (ys : List UInt8) : ByteArray := ⟨ys.toArray⟩
theorem str_of_nums (ys : List UInt8) : strOfNums (ys.map fun b => (b.toNat : Int)) = str ys := by
  simp [strOfNums, str, Function.comp_def]
theorem run_convert_sl {w : World} {ao : Option Addr} {n c : Nat} {ys : List UInt8} (hn : ys.length = n) (hno : ao = none → ys = []) (hs : ∀ a, ao = some a → ∀ j u, (bvs ys)[j]? = some u → w.cell? (a.add j) = some u) :
    (convert 36 9 (.slice ao n c)).run Tryz.prog w = .ok (.string (str ys)) w := by
  cases ao with
  | none =>
    obtain rfl := hno rfl
    subst hn
    exact run_convert_bytes_nil w 36 5 Tryz.underlying36 Tryz.underlying5 _ _ 9 Tryz.underlying9
  | some a =>
    have hl : (loadCells a n).run Tryz.prog w = .ok ((ys.map fun b => (b.toNat : Int)).map (Value.int .u8)).toArray w := by
      have := run_loadCells_list (P := Tryz.prog) w a (bvs ys) (hs a rfl)
      rw [bvs_length, hn] at this
      rw [this]
      simp [bvs, bv, Function.comp_def]
    rw [run_convert_bytes_string w 36 9 5 _ n c Tryz.underlying36 Tryz.underlying5 Tryz.underlying9, run_bytesToString w _ n c _ hl, foldl_push_bytes, ← str_of_nums]
    simp [strOfNums, ByteArray.empty, ByteArray.emptyWithCapacity]
    rfl

/-- The next text. -/
def rt (xs : List UInt8) (k : Nat) (err : Int) : List UInt8 × Nat × Int :=
  nx xs (rn xs k err 4096).2.1 (rn xs k err 4096).2.2 (rn xs k err 4096).1
def TextPost (w : World) (b : Nat) (r : Option Nat) (xs : List UInt8) (X : List UInt8 × Nat × Int) (e : Ending) (w' : World) : Prop :=
  e = .returned (.string (str X.1)) ∧ Rd w' b r xs X.2.1 X.2.2 ∧ Fr w w' b none
theorem rtext_any {w : World} {b : Nat} {r : Option Nat} {xs : List UInt8} {k : Nat} {err : Int} (h : Rd w b r xs k err) (hsz : xs.length ≤ 140737488355328) :
    Calls Tryz.prog 113 #[.pointer (some ⟨b, 0, none⟩)] w (TextPost w b r xs (rt xs k err)) := by
  have N := rnum_any h hsz 4096 (by decide)
  have hl := rn_le xs k err 4096
  unfold rt
  generalize rn xs k err 4096 = X at N hl ⊢
  obtain ⟨n, k1, e1⟩ := X
  dsimp only at hl ⊢
  have HX : ∀ W, Rd W b r xs k1 e1 → Calls Tryz.prog 138 #[.pointer (some ⟨b, 0, none⟩), .int .i64 (n : Int)] W fun e w' => ∃ v, e = .returned v ∧ Sl w' v (nx xs k1 e1 n).1 ∧ Rd w' b r xs (nx xs k1 e1 n).2.1 (nx xs k1 e1 n).2.2 ∧ Fr W w' b none :=
    fun W hW => next_any hW n (by omega) hsz
  generalize nx xs k1 e1 n = Y at HX ⊢
  have HN := Lib.hid N
  have HH := Lib.hid HX
  clear N HX
  go_enter Tryz.func113, Tryz.ntmps113
  go_wp2_with fail
  refine HN.out.mono ?_
  rintro e w2 ⟨rfl, hR2, hF2⟩
  dsimp only at hR2 ⊢
  go_wp2_with fail
  refine (HH.out _ hR2).mono ?_
  rintro e w3 ⟨v, rfl, ⟨ao, c, rfl, hno, hs⟩, hR3, hF3⟩
  have hcv := run_convert_sl (n := Y.1.length) (c := c) rfl hno hs
  go_wp2
  go_ret
  exact ⟨rfl, hR3, hF2.trans (Or.inl rfl) hF3⟩

/-- How many are left. -/
def rl (xs : List UInt8) (k : Nat) (err : Int) : Nat := if err = 0 then xs.length - k else 0
theorem left_any {w : World} {b : Nat} {r : Option Nat} {xs : List UInt8} {k : Nat} {err : Int} (h : Rd w b r xs k err) (hsz : xs.length ≤ 140737488355328) :
    Calls Tryz.prog 116 #[.pointer (some ⟨b, 0, none⟩)] w fun e w' => e = .returned (.int .i64 (rl xs k err : Int)) ∧ ∃ n, w' = w.drewN n := by
  unfold rl
  by_cases he : err = 0
  · subst he; exact left_ok h hsz
  · rw [if_neg he]
    refine (left_err h he).mono ?_
    rintro e w' ⟨rfl, rfl⟩
    exact ⟨rfl, 0, rfl⟩
/-- What End tells. -/
def rend (xs : List UInt8) (k : Nat) (err : Int) : Int := if 0 < rl xs k err then 8 else err
theorem end_any {w : World} {b : Nat} {r : Option Nat} {xs : List UInt8} {k : Nat} {err : Int} (h : Rd w b r xs k err) (hsz : xs.length ≤ 140737488355328) :
    Calls Tryz.prog 79 #[.pointer (some ⟨b, 0, none⟩)] w fun e w' => e = .returned (.int .i64 (rend xs k err)) ∧ ∃ n, w' = w.drewN n := by
  have L := left_any h hsz
  unfold rend
  generalize rl xs k err = m at L ⊢
  have HL := Lib.hid L
  clear L
  by_cases hm : 0 < m
  · rw [if_pos hm]
    have hmi : (0 : Int) < (m : Int) := by omega
    go_enter Tryz.func79, Tryz.ntmps79
    go_wp2_with fail
    refine HL.out.mono ?_
    rintro e w2 ⟨rfl, n, rfl⟩
    go_wp2_with fail
    go_ret
    exact ⟨rfl, n, rfl⟩
  · rw [if_neg hm]
    have hmi : ¬ (0 : Int) < (m : Int) := by omega
    obtain ⟨ax, cx, c0, c1, c2, f1, f2, _⟩ := h.cells
    go_enter Tryz.func79, Tryz.ntmps79
    go_wp2_with fail
    refine HL.out.mono ?_
    rintro e w2 ⟨rfl, n, rfl⟩
    go_wp2
    go_ret
    exact ⟨rfl, n, rfl⟩

/-- What Read makes. -/
theorem read_any {w : World} (ao : Option Addr) (m c : Nat) (ys : List UInt8) (hl : ys.length = m) (hno : ao = none → m = 0)
    (hsrc : ∀ a, ao = some a → ∀ j u, (bvs ys)[j]? = some u → w.cell? (a.add j) = some u) (hsz : m ≤ 140737488355328) :
    Calls Tryz.prog 76 #[.slice ao m c] w fun e w' => ∃ b r, e = .returned (.pointer (some ⟨b, 0, none⟩)) ∧ Rd w' b r ys 0 0 ∧ Below w.heap.size w w' ∧ w.heap.size ≤ b ∧ (∀ g, r = some g → w.heap.size ≤ g) := by
  obtain ⟨i0, hi, hz0, hz1, hz2⟩ := info_parts Tryz.info5
  have S : Src Tryz.prog 1 36 (.slice ao m c) m (bvs ys) w := Src.any w (e' := 5) Tryz.underlying36 ao m c (bvs ys) (by rw [bvs_length, hl, Nat.mul_one]) hno hsrc (bvs_one ys)
  go_enter Tryz.func76, Tryz.ntmps76
  go_wp2_with (at_builtin; refine wpList_append_own_src _ rfl (.const (.slice none 0 0)) (.tmp 3) 36 36 rfl w.heap.size 5 i0 (.int .u8 0) 1 1 Tryz.underlying36 hi hz0 hz1 hz2 rfl _ 0 [] rfl (World.ownsRow_nil _ _ _ _) _ m (bvs ys) rfl S ?b1 ?b2 (Nat.le_refl _) ?next)
  case b1 => unfold maxLen; omega
  case b2 => omega
  case next =>
    rintro v' w1 ⟨hown1, hgrow, hat⟩
    obtain ⟨ao', c', rfl⟩ := own_slice hown1
    have hB : Below w.heap.size w w1 := (Below.refl _ _).grown hgrow (Nat.le_refl _) (fun k h => by cases h)
    clear S hsrc
    go_wp2
    go_ret
    have hb := hB.size
    refine ⟨w1.heap.size, _, rfl, ⟨Nat.zero_le _, _, heap_alloc_new w1 _, ?_, rfl⟩, hB.alloc hb _, hb, ?_⟩
    · rw [hl]
      obtain ⟨q1, q2⟩ := hown1.alloc (.cells #[.slice ao' m c', .int .i64 0, .int .i64 0] 127)
      refine ⟨q1, ?_⟩
      rcases q2 with q2 | ⟨g, cap, cur, e1, _, rest⟩
      · exact Or.inl q2
      · exact Or.inr ⟨g, cap, cur, e1, Nat.zero_le _, rest⟩
    · intro g hg
      exact (hown1.lt g hg).1

theorem byteCells_bvs (s : ByteArray) : byteCells s = bvs s.data.toList := rfl
set_option maxRecDepth 100000 in
set_option maxHeartbeats 1600000 in
/-- A Writer's Text. -/
theorem wtext_any {w : World} {b : Nat} {r : Option Nat} {xs : List UInt8} (hw : Wr w b r xs) (s : ByteArray) (hsz : xs.length + 10 + s.size ≤ 140737488355328) :
    Calls Tryz.prog 108 #[.pointer (some ⟨b, 0, none⟩), .string s] w fun e w' => e = .returned (.tuple #[]) ∧ Wrote w w' b r (xs ++ enc s.size ++ s.data.toList) := by
  obtain ⟨i0, hi, hz0, hz1, hz2⟩ := info_parts Tryz.info5
  have hel := enc_length s.size
  have hs63 : s.size ≤ 9223372036854775807 := by omega
  have hlen : (xs ++ enc s.size).length ≤ xs.length + 10 := by simp; exact hel
  have N := num_one hw _ rfl _ s.size rfl (by omega) (by omega)
  generalize xs ++ enc s.size = zs at hlen N ⊢
  have HN := Lib.hid N
  clear N hel
  go_enter Tryz.func108, Tryz.ntmps108
  go_wp2_with fail
  refine HN.out.mono ?_
  rintro e w2 ⟨rfl, r2, hW2, hF2, hr2⟩
  obtain ⟨ax, cx, h0, f0, hown, hr⟩ := hW2.cell
  have hne := hW2.ne
  have hbl := hW2.lt
  have S : Src Tryz.prog 1 9 (.string s) s.size (bvs s.data.toList) w2 := byteCells_bvs s ▸ Src.ofString w2 Tryz.underlying9 s
  go_wp2_with (at_builtin; refine wpList_append_own_src _ rfl (.tmp 14) (.tmp 15) 36 9 rfl 0 5 i0 (.int .u8 0) 1 1 Tryz.underlying36 hi hz0 hz1 hz2 rfl _ zs.length (bvs zs) rfl hown _ s.size (bvs s.data.toList) rfl S ?b1 ?b2 (Nat.zero_le _) ?next)
  case b1 => unfold maxLen; omega
  case b2 => omega
  case next =>
    rintro v' w3 ⟨hown1, hgrow, hat⟩
    obtain ⟨ao', c', rfl⟩ := own_slice hown1
    rw [hr] at hgrow hat
    have hb1 : w3.heap[b]? = w2.heap[b]? := hgrow.block b hbl (fun e => hne e.symm)
    have k0 := (World.cell?_of_block (a := ⟨b, 0, none⟩) hb1).trans h0
    have e0 := (World.frozen?_of_block (a := ⟨b, 0, none⟩) hb1).trans f0
    clear S h0 f0 hown
    go_wp2
    go_end0
    have hn' : (Value.slice ao' (zs.length + s.size) c').ownBlock ≠ some b := by
      rcases hat with h | h
      · rw [h]; exact hne
      · rw [h]; intro e; cases e; omega
    obtain ⟨v0, hv0, _⟩ := hW2
    have hW := Wr.set (zs := zs ++ s.data.toList) (hb1.trans hv0) (by rw [bvs_append, List.length_append]; exact hown1) hn'
    refine ⟨rfl, Wrote.trans (xs := xs) hF2 hr2 ⟨_, hW, ((Fr.refl w2 b r2).grown hgrow).set 0 _, ?_⟩⟩
    rcases hat with h | h
    · exact Or.inl h
    · exact Or.inr ⟨_, h, Nat.le_refl _⟩
end Go.Proofs.YtnfobnnbeefeeaaGreatDoor.Wi
/- A number that is read is just the one that is written so: plain lists and arithmetic. -/
namespace Go.Proofs.YtnfobnnbeefeeaaGreatDoor.Wi
open Go Go.RowKit
set_option linter.unusedVariables false

theorem rb_ok {xs : List UInt8} {k : Nat} (h : k < xs.length) : rb xs k 0 = (xs[k], k + 1, 0) := by simp [rb, h, List.getD]
theorem rb_short {xs : List UInt8} {k : Nat} (h : xs.length ≤ k) : rb xs k 0 = (0, k, 6) := by simp [rb]; omega
theorem rb_err {xs : List UInt8} {k : Nat} {e : Int} (h : e ≠ 0) : rb xs k e = (0, k, e) := by simp [rb, h]

theorem pow7 (i : Nat) : 2 ^ (7 * (i + 1)) = 128 * 2 ^ (7 * i) := by
  rw [show 7 * (i + 1) = 7 * i + 7 by omega, Nat.pow_add]; omega
theorem pow_le {i : Nat} (h : i ≤ 8) : 2 ^ (7 * i) ≤ 2 ^ 56 := Nat.pow_le_pow_right (by omega) (by omega)

/-- Nothing is added beyond the 64 bits. -/
theorem fits {i n d : Nat} (hi : i < 10) (hn : n < 2 ^ (7 * i)) (hd : d < 256) (hb : bad i d = false) (h128 : d < 128) : (n + (d % 128 * 2 ^ (7 * i)) % 18446744073709551616) % 18446744073709551616 = n + d * 2 ^ (7 * i) := by
  rw [Nat.mod_eq_of_lt h128]
  by_cases h9 : i = 9
  · subst h9
    have : d ≤ 1 := by
      simp [bad] at hb; omega
    obtain rfl | rfl : d = 0 ∨ d = 1 := by omega
    · simp at hn ⊢; omega
    · simp at hn ⊢; omega
  · have hp := pow_le (show i ≤ 8 by omega)
    have hm : d * 2 ^ (7 * i) ≤ 127 * 2 ^ (7 * i) := Nat.mul_le_mul_right _ (by omega)
    generalize d * 2 ^ (7 * i) = q at *
    generalize 2 ^ (7 * i) = P at *
    simp at hp
    rw [Nat.mod_eq_of_lt (show q < 18446744073709551616 by omega), Nat.mod_eq_of_lt (by omega)]
theorem fits_more {i n d : Nat} (hi : i < 9) (hn : n < 2 ^ (7 * i)) (hd : d < 256) (h128 : 128 ≤ d) : (n + (d % 128 * 2 ^ (7 * i)) % 18446744073709551616) % 18446744073709551616 = n + (d - 128) * 2 ^ (7 * i) ∧ n + (d - 128) * 2 ^ (7 * i) < 2 ^ (7 * (i + 1)) := by
  rw [show d % 128 = d - 128 by omega, pow7]
  have hp := pow_le (show i ≤ 8 by omega)
  have hm : (d - 128) * 2 ^ (7 * i) ≤ 127 * 2 ^ (7 * i) := Nat.mul_le_mul_right _ (by omega)
  generalize (d - 128) * 2 ^ (7 * i) = q at *
  generalize 2 ^ (7 * i) = P at *
  simp at hp
  rw [Nat.mod_eq_of_lt (show q < 18446744073709551616 by omega), Nat.mod_eq_of_lt (by omega)]
  exact ⟨rfl, by omega⟩

theorem drop_take_cons {xs : List UInt8} {k k' : Nat} (h : k < xs.length) (hk : k + 1 ≤ k') : (xs.drop k).take (k' - k) = xs[k] :: (xs.drop (k + 1)).take (k' - (k + 1)) := by
  rw [List.drop_eq_getElem_cons h, show k' - k = (k' - (k + 1)) + 1 by omega, List.take_succ_cons]

/-- WHAT IS READ IS WRITTEN SO. -/
theorem dg_enc (f : Nat) : ∀ (xs : List UInt8) (k i n N k' : Nat), i + f = 10 → n < 2 ^ (7 * i) → 0 < f → dg f xs k 0 i n = (N, k', 0) →
    ∃ m, N = n + m * 2 ^ (7 * i) ∧ (0 < i → 0 < m) ∧ k < k' ∧ k' ≤ xs.length ∧ encF f m = (xs.drop k).take (k' - k) := by
  induction f with
  | zero => intro _ _ _ _ _ _ _ _ h; omega
  | succ f ih =>
    intro xs k i n N k' hif hn _ h
    rw [dg] at h
    by_cases hl : k < xs.length
    · rw [rb_ok hl] at h
      dsimp only at h
      have hd : xs[k].toNat < 256 := xs[k].toNat_lt
      by_cases hb : bad i xs[k].toNat = true
      · simp [hb] at h
      · have hb' : bad i xs[k].toNat = false := by simpa using hb
        rw [hb'] at h
        by_cases h128 : xs[k].toNat < 128
        · rw [if_pos (by simp [h128]), fits (by omega) hn hd hb' h128] at h
          simp at h
          obtain ⟨h1, h2⟩ := h
          refine ⟨xs[k].toNat, h1.symm, ?_, by omega, by omega, ?_⟩
          · intro hi
            rcases Nat.eq_zero_or_pos xs[k].toNat with h0 | h0
            · simp [bad, hi, h0] at hb'
            · exact h0
          · rw [encF_succ, if_pos h128, ← h2, drop_take_cons hl (by omega)]
            simp
        · rw [if_neg (by simp; omega)] at h
          have h9 : i < 9 := by
            rcases Nat.lt_or_ge i 9 with h9 | h9
            · exact h9
            · have : i = 9 := by omega
              subst this
              simp [bad] at hb'
              omega
          obtain ⟨e1, e2⟩ := fits_more h9 hn hd (by omega)
          rw [e1] at h
          obtain ⟨m, r1, r2, r3, r4, r5⟩ := ih xs (k + 1) (i + 1) _ N k' (by omega) e2 (by omega) (by simpa using h)
          have hm := r2 (by omega)
          refine ⟨xs[k].toNat - 128 + 128 * m, ?_, by omega, by omega, r4, ?_⟩
          · rw [r1, pow7]
            rw [Nat.add_mul, Nat.mul_comm 128 m, Nat.mul_assoc]
            omega
          · rw [encF_succ, if_neg (by omega), drop_take_cons hl (by omega), ← r5, show (xs[k].toNat - 128 + 128 * m) / 128 = m by omega,
              show (xs[k].toNat - 128 + 128 * m) % 128 + 128 = xs[k].toNat by omega]
            simp
    · rw [rb_short (by omega)] at h
      simp [bad] at h
theorem rn_enc {xs : List UInt8} {n k' : Nat} (h : rn xs 0 0 18446744073709551615 = (n, k', 0)) : enc n = xs.take k' ∧ k' ≤ xs.length := by
  have hlt := dg_lt 10 xs 0 0 0 0 (Nat.zero_lt_succ _)
  have hn : ¬ 18446744073709551615 < (dg 10 xs 0 0 0 0).1 := by omega
  unfold rn at h
  dsimp only at h
  rw [if_neg hn] at h
  simp only [Prod.mk.injEq] at h
  obtain ⟨h1, h2, h3⟩ := h
  rw [if_pos h3] at h1
  obtain ⟨m, r1, r2, r3, r4, r5⟩ := dg_enc 10 xs 0 0 0 n k' rfl (by decide) (by decide) (Prod.ext h1 (Prod.ext h2 h3))
  simp at r1
  subst r1
  exact ⟨by simpa [enc] using r5, r4⟩
theorem rn_zero {xs : List UInt8} {k : Nat} {e : Int} {most n k' : Nat} {e' : Int} (h : rn xs k e most = (n, k', e')) (he : e' ≠ 0) : n = 0 := by
  unfold rn at h
  dsimp only at h
  simp only [Prod.mk.injEq] at h
  obtain ⟨h1, h2, h3⟩ := h
  rw [h3, if_neg he] at h1
  exact h1.symm
end Go.Proofs.YtnfobnnbeefeeaaGreatDoor.Wi
/- What is written as a number is read as that number: forward. -/
namespace Go.Proofs.YtnfobnnbeefeeaaGreatDoor.Wi
open Go Go.RowKit
set_option linter.unusedVariables false

theorem encF_len (f m : Nat) : (encF (f + 1) m).length = if m < 128 then 1 else (encF f (m / 128)).length + 1 := by
  rw [encF_succ]; split <;> simp
theorem dg_fwd : ∀ (f m i n : Nat) (xs : List UInt8) (k : Nat) (rest : List UInt8), i + f = 10 → 0 < f → n < 2 ^ (7 * i) → m * 2 ^ (7 * i) + n < 18446744073709551616 → (0 < i → 0 < m) → xs.drop k = encF f m ++ rest →
    dg f xs k 0 i n = (n + m * 2 ^ (7 * i), k + (encF f m).length, 0)
  | 0, _, _, _, _, _, _, _, h0, _, _, _, _ => absurd h0 (by omega)
  | f + 1, m, i, n, xs, k, rest, hf, _, hn, hm, hz, hd => by
    have hne : encF (f + 1) m ++ rest ≠ [] := by rw [encF_succ]; split <;> simp
    have hk : k < xs.length := by
      rcases Nat.lt_or_ge k xs.length with h | h
      · exact h
      · rw [List.drop_eq_nil_of_le h] at hd; exact absurd hd.symm hne
    rw [List.drop_eq_getElem_cons hk, encF_succ] at hd
    have h9 : i = 9 → m ≤ 1 := by
      intro h
      subst h
      rw [show 2 ^ (7 * 9) = 9223372036854775808 from rfl] at hm
      omega
    by_cases h128 : m < 128
    · rw [if_pos h128, List.cons_append, List.nil_append] at hd
      injection hd with hx _
      have hxn : xs[k].toNat = m := by rw [hx, UInt8.toNat_ofNat']; omega
      have hb : bad i m = false := by
        unfold bad
        by_cases hi : 0 < i
        · have := hz hi
          by_cases h : i = 9
          · have := h9 h
            simp [h]; omega
          · simp [h]; omega
        · simp [show i = 0 by omega]
      have ft := fits (i := i) (n := n) (d := m) (by omega) hn (by omega) hb h128
      simp only [dg, rb_ok hk, hxn, hb, Bool.false_and, Bool.false_eq_true, if_false]
      rw [ft, encF_len, if_pos h128]
      simp [h128]
    · rw [if_neg h128, List.cons_append] at hd
      injection hd with hx hd'
      have hxn : xs[k].toNat = m % 128 + 128 := by rw [hx, UInt8.toNat_ofNat']; omega
      have hi9 : i < 9 := by
        rcases Nat.lt_or_ge i 9 with h | h
        · exact h
        · have := h9 (by omega); omega
      have hb : bad i (m % 128 + 128) = false := by
        unfold bad
        simp; omega
      have ft := fits_more (i := i) (n := n) (d := m % 128 + 128) hi9 hn (by omega) (by omega)
      rw [Nat.add_sub_cancel] at ft
      obtain ⟨f1, f2⟩ := ft
      have hp := pow7 i
      have hm128 : m = m / 128 * 128 + m % 128 := by omega
      have hsum : m / 128 * 2 ^ (7 * (i + 1)) + (n + m % 128 * 2 ^ (7 * i)) = n + m * 2 ^ (7 * i) := by
        rw [hp]
        generalize 2 ^ (7 * i) = P
        conv => rhs; rw [hm128, Nat.add_mul, Nat.mul_assoc]
        omega
      have ih := dg_fwd f (m / 128) (i + 1) (n + m % 128 * 2 ^ (7 * i)) xs (k + 1) rest (by omega) (by omega) f2 (by rw [hsum]; omega) (fun _ => by omega) hd'
      simp only [dg, rb_ok hk, hxn, hb, Bool.false_and, Bool.false_eq_true, if_false]
      rw [f1, encF_len, if_neg h128]
      have h2 : ¬ (m % 128 + 128 < 128) := by omega
      simp only [h2, decide_false, Bool.false_or, bne_self_eq_false, Bool.false_eq_true, if_false]
      rw [ih]
      refine Prod.ext ?_ (Prod.ext ?_ rfl)
      · show n + m % 128 * 2 ^ (7 * i) + m / 128 * 2 ^ (7 * (i + 1)) = n + m * 2 ^ (7 * i)
        omega
      · show k + 1 + (encF f (m / 128)).length = k + ((encF f (m / 128)).length + 1)
        omega
theorem rn_fwd {xs rest : List UInt8} {k m most : Nat} (hd : xs.drop k = enc m ++ rest) (hm : m < 18446744073709551616) (hmost : m ≤ most) : rn xs k 0 most = (m, k + (enc m).length, 0) := by
  have h := dg_fwd 10 m 0 0 xs k rest rfl (by omega) (by simp) (by simpa using hm) (fun h => by omega) hd
  unfold rn
  rw [h]
  simp [show ¬ most < m by omega, enc]
theorem rt_fwd {xs s rest : List UInt8} {k : Nat} (hd : xs.drop k = enc s.length ++ (s ++ rest)) (hs : s.length ≤ 4096) : rt xs k 0 = (s, k + (enc s.length).length + s.length, 0) := by
  have h := rn_fwd (most := 4096) hd (by omega) hs
  unfold rt
  rw [h]
  have hl : k + (enc s.length).length + s.length ≤ xs.length := by
    have e := congrArg List.length hd
    rw [List.length_drop, List.length_append, List.length_append] at e
    have : 0 < (enc s.length).length := by unfold enc; rw [encF_len]; split <;> omega
    omega
  have hd2 : xs.drop (k + (enc s.length).length) = s ++ rest := by
    rw [← List.drop_drop, hd, List.drop_left' rfl]
  unfold nx
  simp [hl, hd2]
end Go.Proofs.YtnfobnnbeefeeaaGreatDoor.Wi
/- The head of each law: numbers and a text are written and read, and that is so. -/
namespace Go.Proofs.YtnfobnnbeefeeaaGreatDoor.Wi
open Go Go.RowKit
set_option linter.unusedVariables false

theorem Wrote.step {W0 w w' : World} {B b : Nat} {r : Option Nat} {zs : List UInt8} (h : Wrote w w' b r zs) (hB : Below B W0 w) (hw : B ≤ w.heap.size) (hb : B ≤ b) (hr : ∀ g, r = some g → B ≤ g) :
    ∃ r', Wr w' b r' zs ∧ Below B W0 w' ∧ B ≤ w'.heap.size ∧ (∀ g, r' = some g → B ≤ g) := by
  obtain ⟨r', hW, hF, h'⟩ := h
  refine ⟨r', hW, hB.trans (hF.below hw hb hr), Nat.le_trans hw hF.size, ?_⟩
  rcases h' with rfl | ⟨g, rfl, hg⟩
  · exact hr
  · intro g' e; cases e; omega
theorem Wr.below {B : Nat} {w w' : World} {b : Nat} {r : Option Nat} {xs : List UInt8} (h : Wr w b r xs) (hB : Below B w w') (hb : b < B) (hr : ∀ g, r = some g → g < B) : Wr w' b r xs :=
  h.keep (hB.block b hb) (fun g hg => hB.block g (hr g hg))
theorem Wr.later {w w' : World} {b : Nat} {r : Option Nat} {xs : List UInt8} (h : Wr w b r xs) (hB : Below w.heap.size w w') : Wr w' b r xs := h.below hB h.lt h.rlt
theorem Wr.fr {w w' : World} {b b' : Nat} {r r' : Option Nat} {xs : List UInt8} (h : Wr w b r xs) (hF : Fr w w' b' r') (h1 : b ≠ b') (h2 : r' ≠ some b) (h3 : r ≠ some b') (h4 : ∀ g, r = some g → r' ≠ some g) : Wr w' b r xs :=
  h.keep (hF.block b h.lt h1 (fun e => h2 e.symm)) (fun g hg => hF.block g (h.rlt g hg) (fun e => h3 (by rw [hg, e])) (fun e => h4 g hg e.symm))

theorem own_slice_src {w : World} {base n c : Nat} {ao : Option Addr} {xs : List UInt8} (h : w.ownsRow base 5 1 (.slice ao n c) n (bvs xs)) : xs.length = n ∧ (ao = none → n = 0) ∧ ∀ a, ao = some a → ∀ j u, (bvs xs)[j]? = some u → w.cell? (a.add j) = some u := by
  refine ⟨by have := h.1; simpa [bvs_length] using this, ?_, ?_⟩
  · rcases h.2 with ⟨e, e0⟩ | ⟨g, cap, cur, e, _⟩
    · exact fun _ => e0
    · intro e'; subst e'; cases e
  · intro a ha
    subst ha
    rcases h.2 with ⟨e, e0⟩ | ⟨g, cap, cur, e, _⟩
    · cases e
    · injection e with e1
      injection e1 with e1
      subst e1
      exact h.cells rfl
theorem Fr.belowN {B : Nat} {W0 w w' : World} {b : Nat} (h : Fr w w' b none) (hB : Below B W0 w) (hw : B ≤ w.heap.size) (hb : B ≤ b) : Below B W0 w' := hB.trans (h.below hw hb (fun g e => by cases e))
theorem below_drewN {B : Nat} {a w : World} (h : Below B a w) (n : Nat) : Below B a (w.drewN n) := ⟨h.os, h.tape, h.output, h.size, h.block⟩

theorem own_later {w w' : World} {base n B : Nat} {v : Value} {xs : List Value} (h : w.ownsRow base 5 1 v n xs) (hB : Below B w w') (hb : w.heap.size ≤ B) : w'.ownsRow base 5 1 v n xs := by
  refine ⟨h.1, ?_⟩
  rcases h.2 with h2 | ⟨g, cap, cur, rfl, hg, hh, rest⟩
  · exact Or.inl h2
  · exact Or.inr ⟨g, cap, cur, rfl, hg, (hB.block g (Nat.lt_of_lt_of_le (Array.getElem?_eq_some_iff.1 hh).1 hb)).trans hh, rest⟩
theorem own_convert {w : World} {base c : Nat} {ao : Option Addr} {xs : List UInt8} (h : w.ownsRow base 5 1 (.slice ao xs.length c) xs.length (bvs xs)) :
    (convert 36 9 (.slice ao xs.length c)).run Tryz.prog w = .ok (.string (str xs)) w := by
  obtain ⟨q1, q2, q3⟩ := own_slice_src h
  exact run_convert_sl rfl (fun e => List.eq_nil_of_length_eq_zero (q2 e)) q3

/-- The bytes of the head. -/
def L6 : List UInt8 := [172, 2, 1, 2, 97, 98]
def RnVal (k most : Nat) (v k' : Nat) : Prop := rn L6 k 0 most = (v, k', 0)

end Go.Proofs.YtnfobnnbeefeeaaGreatDoor.Wi
/- The reference's numbers and texts on the wire. -/
namespace Go.Proofs.YtnfobnnbeefeeaaGreatDoor.Wi
open Go Go.RowKit
set_option linter.unusedVariables false

theorem wstr_app (a b : List UInt8) : str a ++ str b = str (a ++ b) := by
  apply ByteArray.ext
  simp [str]
theorem wstr_size (a : List UInt8) : (str a).size = a.length := by simp [str, ByteArray.size]
theorem cv_one (W : World) (g : Nat) (b : UInt8) (h : W.heap[g]? = some (.cells #[.int .u8 ((b.toNat : Nat) : Int)] 5 (0, 0))) : (convert 36 9 (.slice (some ⟨g, 0, none⟩) 1 1)).run Tryz.prog W = .ok (.string (str [b])) W :=
  run_convert_sl (n := 1) (c := 1) (ys := [b]) rfl (fun e => by cases e) (fun a ha j u hu => by
    cases ha
    match j, hu with
    | 0, hu =>
      obtain rfl : bv b = u := by simpa [bvs] using hu
      rw [Addr.add_mid, Nat.zero_add, cell_of_row W g 0 _ _ _ h]; rfl
    | j + 1, hu => simp [bvs] at hu)
set_option maxRecDepth 100000 in
set_option maxHeartbeats 1600000 in
theorem refNum_any (n : Nat) : n < 18446744073709551616 → ∀ w : World, Calls Tryz.prog 60 #[.int .u64 (n : Int)] w fun e w' => e = .returned (.string (str (enc n))) ∧ Below w.heap.size w w' := by
  induction n using Nat.strongRecOn with
  | _ n ih =>
    intro hn w
    by_cases h128 : n < 128
    · have hI : (n : Int) < 128 := by omega
      have hI2 : (0 : Int) ≤ (n : Int) := by omega
      have hu := u8_small h128
      obtain ⟨b, hb⟩ : ∃ b, b = UInt8.ofNat n := ⟨_, rfl⟩
      rw [← hb] at hu
      have hm : (n : Int) % 256 = (n : Int) := by omega
      have CV := cv_one (w.alloc (.cells #[.int .u8 ((b.toNat : Nat) : Int)] 5)) w.heap.size b (heap_alloc_new w _)
      rw [hu] at CV
      have HB := Lib.hid hb
      clear hb hu ih
      go_enter Tryz.func60, Tryz.ntmps60
      go_wp2_with fail
      go_ret
      refine ⟨?_, (Below.refl _ _).alloc (Nat.le_refl _) _⟩
      rw [enc_lt h128, ← HB.out]
      rfl
    · have hI : ¬ (n : Int) < 128 := by omega
      have hd : n / 128 < n := Nat.div_lt_self (by omega) (by decide)
      have hl := u8_low n
      obtain ⟨b, hb⟩ : ∃ b, b = UInt8.ofNat (n % 128 + 128) := ⟨_, rfl⟩
      rw [← hb] at hl
      have IH := fun W => ih (n / 128) hd (by omega) W
      obtain ⟨m, hm⟩ : ∃ m, m = n / 128 := ⟨_, rfl⟩
      have hmI : (n : Int) / 128 = (m : Int) := by omega
      rw [← hm] at IH
      have hen : str [b] ++ str (enc m) = str (enc n) := by rw [wstr_app, enc_ge (by omega) hn, hm, hb]; rfl
      have hes : (str (enc m)).size ≤ 10 := by rw [wstr_size]; exact enc_length m
      have hs1 : (str [b]).size = 1 := wstr_size _
      have hl2 : (n : Int) % 128 + 128 = ((b.toNat : Nat) : Int) := hl.symm
      have hb8 := b.toNat_lt
      have hA : IntKind.u8.wrap (IntKind.u64.wrap ((n : Int).tmod 128 + 128)) = ((b.toNat : Nat) : Int) := by
        rw [Int.tmod_eq_emod_of_nonneg (by omega), IntKind.wrap_u64, IntKind.wrap_u8]; omega
      have hM : IntKind.u64.wrap (m : Int) = (m : Int) := by rw [IntKind.wrap_u64]; omega
      have CV := Lib.hid (fun (W : World) (g : Nat) h => cv_one W g b h)
      have HIH := Lib.hid IH
      have HEN := Lib.hid hen
      have R0 := Lib.hid (Below.refl w.heap.size w)
      have R1 := Lib.hid (fun o => (Below.refl w.heap.size w).alloc (Nat.le_refl _) o)
      have cv1 := (CV.out (w.alloc (.cells #[.int .u8 ((b.toNat : Nat) : Int)] 5)).drew w.heap.size (heap_alloc_new w _))
      clear hb hl IH hm hen ih hd hn hl2
      go_enter Tryz.func60, Tryz.ntmps60
      go_wp2_with fail
      go_region_with (first
        | (go_at_call 60; (with_reducible refine (HIH.out w.drew).mono ?_); rintro e wA ⟨rfl, hA⟩; have bA := R0.out.drew.trans (hA.mono R0.out.drew.size); have cv2 := CV.out (wA.alloc (.cells #[.int .u8 ((b.toNat : Nat) : Int)] 5)) wA.heap.size (heap_alloc_new wA _))
        | (go_at_call 60; (with_reducible refine (HIH.out (w.alloc _).drew).mono ?_); rintro e wA ⟨rfl, hA⟩; have bA := (R1.out _).drew.trans (hA.mono (R1.out _).drew.size); have cv2 := CV.out wA w.heap.size ((hA.block w.heap.size (by simp)).trans (heap_alloc_new w _))))
      all_goals
        go_wp2_with fail
        go_ret
        first
          | exact ⟨by rw [HEN.out]; rfl, bA⟩
          | exact ⟨by rw [HEN.out]; rfl, bA.alloc bA.size _⟩
end Go.Proofs.YtnfobnnbeefeeaaGreatDoor.Wi
/- The reference's other numbers and texts; what the writer's Fixed writes. -/
namespace Go.Proofs.YtnfobnnbeefeeaaGreatDoor.Wi
open Go Go.RowKit
set_option linter.unusedVariables false

/-- The first i bytes of a number, the lowest first. -/
def leTo (n : Nat) : Nat → List UInt8
  | 0 => []
  | i + 1 => leTo n i ++ [UInt8.ofNat (n / 256 ^ i)]
theorem leTo_length (n : Nat) : ∀ i, (leTo n i).length = i
  | 0 => rfl
  | i + 1 => by simp [leTo, leTo_length n i]
def RfRel (n : Nat) (w : World) (x v u : Value) (wr : World) : Prop := ∃ i : Nat, u = .int .i64 (i : Int) ∧ i ≤ 4 ∧ x = .int .u32 ((n / 256 ^ i : Nat) : Int) ∧ v = .string (str (leTo n i)) ∧ Below w.heap.size w wr
set_option maxRecDepth 100000 in
set_option maxHeartbeats 1600000 in
theorem refText_any (s : ByteArray) (hs : s.size ≤ 1000000) (w : World) : Calls Tryz.prog 61 #[.string s] w fun e w' => e = .returned (.string (str (enc s.size) ++ s)) ∧ Below w.heap.size w w' := by
  obtain ⟨n, hn⟩ : ∃ n, s.size = n := ⟨_, rfl⟩
  rw [hn] at hs
  have N := Lib.hid (refNum_any n (by omega))
  have hI : (n : Int) ≤ 1000000 := by omega
  have hes : (str (enc n)).size ≤ 10 := by rw [wstr_size]; exact enc_length n
  have hen : enc s.size = enc n := by rw [hn]
  rw [hen]
  clear hen
  go_enter Tryz.func61, Tryz.ntmps61
  go_wp2_with fail
  refine (N.out w).mono ?_
  rintro e w' ⟨rfl, hB⟩
  go_wp2_with fail
  go_ret
  exact ⟨rfl, hB⟩
set_option maxRecDepth 100000 in
set_option maxHeartbeats 1600000 in
theorem refInt_any (n : Int) (h0 : -9223372036854775808 ≤ n) (h1 : n ≤ 9223372036854775807) (w : World) : Calls Tryz.prog 102 #[.int .i64 n] w fun e w' => e = .returned (.string (str (enc (zig n)))) ∧ Below w.heap.size w w' := by
  have hz := zig_lt h0 h1
  by_cases hn : n < 0
  · have z := zig_neg hn
    obtain ⟨m, hm⟩ : ∃ m, m = zig n := ⟨_, rfl⟩
    rw [← hm] at z hz ⊢
    have N := Lib.hid (refNum_any m hz w)
    have hn' : ¬ 0 ≤ n := by omega
    clear hm
    go_enter Tryz.func102, Tryz.ntmps102
    go_wp2_with fail
    rw [show -(n + 1) * 2 + 1 = (m : Int) by omega]
    refine N.out.mono ?_
    rintro e w' ⟨rfl, hB⟩
    go_wp2_with fail
    go_ret
    exact ⟨rfl, hB⟩
  · have z := zig_pos (show 0 ≤ n by omega)
    obtain ⟨m, hm⟩ : ∃ m, m = zig n := ⟨_, rfl⟩
    rw [← hm] at z hz ⊢
    have N := Lib.hid (refNum_any m hz w)
    have hn' : 0 ≤ n := by omega
    clear hm
    go_enter Tryz.func102, Tryz.ntmps102
    go_wp2_with fail
    rw [show n * 2 = (m : Int) by omega]
    refine N.out.mono ?_
    rintro e w' ⟨rfl, hB⟩
    go_wp2_with fail
    go_ret
    exact ⟨rfl, hB⟩
end Go.Proofs.YtnfobnnbeefeeaaGreatDoor.Wi
