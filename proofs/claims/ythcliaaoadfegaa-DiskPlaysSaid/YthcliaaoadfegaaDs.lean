/- A disk in memory: what it holds, and how its parts are turned. -/
import Derived.Test.YthcliaaoadfegaaFr
import Derived.Lib.SmallJoins
namespace Go.Proofs.Ythcliaaoadfegaa.Dk
open Go Go.RowKit
set_option linter.unusedVariables false
set_option linter.unusedSimpArgs false

/-- The sectors' bytes as cells. -/
def flat (s : List (List UInt8)) : List Value := (s.map bvs).flatten
theorem flat_length : ∀ {s : List (List UInt8)}, (∀ b ∈ s, b.length = 128) → (flat s).length = s.length * 128
  | [], _ => rfl
  | b :: s, h => by
    have h1 := h b (by simp)
    have ih := flat_length (s := s) (fun c hc => h c (by simp [hc]))
    unfold flat at ih ⊢
    simp only [List.map_cons, List.flatten_cons, List.length_append, List.length_cons, bvs_length, ih, h1]
    omega
theorem flat_one (s : List (List UInt8)) : ∀ u ∈ flat s, u.oneCell' = true := by
  intro u hu
  obtain ⟨c, hc, hu⟩ := List.mem_flatten.1 hu
  obtain ⟨b, _, rfl⟩ := List.mem_map.1 hc
  exact bvs_one b u hu
/-- A sector's cells within all of them. -/
theorem flat_at : ∀ {s : List (List UInt8)} (h : ∀ b ∈ s, b.length = 128) {i : Nat} {l : List UInt8}, s[i]? = some l → ∀ j v, (bvs l)[j]? = some v → (flat s)[i * 128 + j]? = some v
  | [], _, _, _, hi, _, _, _ => by simp at hi
  | b :: s, h, 0, l, hi, j, v, hj => by
    simp at hi
    subst hi
    have : j < (bvs b).length := by
      have := List.getElem?_eq_some_iff.1 hj
      exact this.1
    unfold flat
    simp only [List.map_cons, List.flatten_cons, Nat.zero_mul, Nat.zero_add]
    rw [List.getElem?_append_left this]
    exact hj
  | b :: s, h, i + 1, l, hi, j, v, hj => by
    have h1 := h b (by simp)
    have ih := flat_at (s := s) (fun c hc => h c (by simp [hc])) (i := i) (l := l) (by simpa using hi) j v hj
    unfold flat at ih ⊢
    simp only [List.map_cons, List.flatten_cons]
    rw [List.getElem?_append_right (by rw [bvs_length, h1]; omega), bvs_length, h1]
    rw [show (i + 1) * 128 + j - 128 = i * 128 + j by omega]
    exact ih
/-- Cells laid over others from a place on. -/
def over (L : List Value) (o : Nat) (cs : List Value) : List Value := L.take o ++ (cs ++ L.drop (o + cs.length))
theorem over_nil (L : List Value) (o : Nat) : over L o [] = L := by simp [over]
theorem over_cons (L : List Value) (o : Nat) (c : Value) (cs : List Value) (h : o < L.length) : over (L.set o c) (o + 1) cs = over L o (c :: cs) := by
  unfold over
  rw [List.drop_set_of_lt (by omega), List.take_set, List.length_cons, show o + 1 + cs.length = o + (cs.length + 1) by omega]
  rw [show L.take (o + 1) = L.take o ++ [L[o]] from (List.take_append_getElem h).symm, List.set_append]
  have e : (L.take o).length = o := by simp; omega
  rw [if_neg (by omega), e, Nat.sub_self]
  simp
theorem heap_setCells {w : World} {g : Nat} {t : TypeId} : ∀ (cs : List Value) (L : List Value) (o : Nat) (w : World), w.heap[g]? = some (.cells L.toArray t (0, 0)) → o + cs.length ≤ L.length → (w.setCells g o cs).heap[g]? = some (.cells (over L o cs).toArray t (0, 0))
  | [], L, o, w, h, _ => by rw [over_nil]; exact h
  | c :: cs, L, o, w, h, hl => by
    simp at hl
    have h1 := Go.Joins.block_setCell (i := o) h c
    rw [List.setIfInBounds_toArray] at h1
    have := heap_setCells (w := w) cs (L.set o c) (o + 1) (w.setCell ⟨g, o, none⟩ c) h1 (by simp; omega)
    rw [over_cons L o c cs (by omega)] at this
    exact this
theorem setCells_other {g k : Nat} (hk : k ≠ g) : ∀ (cs : List Value) (o : Nat) (w : World), (w.setCells g o cs).heap[k]? = w.heap[k]?
  | [], o, w => rfl
  | c :: cs, o, w => (setCells_other hk cs (o + 1) (w.setCell ⟨g, o, none⟩ c)).trans (Below.heap_setCell w ⟨g, o, none⟩ c k hk)
theorem flat_set : ∀ {s : List (List UInt8)} (h : ∀ b ∈ s, b.length = 128) {i : Nat} {l : List UInt8}, i < s.length → l.length = 128 → over (flat s) (i * 128) (bvs l) = flat (s.set i l)
  | [], _, _, _, hi, _ => by simp at hi
  | b :: s, h, 0, l, hi, hl => by
    have h1 := h b (by simp)
    unfold over flat
    simp only [List.map_cons, List.flatten_cons, Nat.zero_mul, List.take_zero, List.nil_append, Nat.zero_add, List.set_cons_zero, bvs_length, hl]
    rw [List.drop_append, bvs_length, h1, List.drop_eq_nil_of_le (by rw [bvs_length, h1]; omega)]
    simp
  | b :: s, h, i + 1, l, hi, hl => by
    have h1 := h b (by simp)
    have ih := flat_set (s := s) (fun c hc => h c (by simp [hc])) (i := i) (l := l) (by simpa using hi) hl
    unfold over at ih ⊢
    unfold flat at ih ⊢
    simp only [List.map_cons, List.flatten_cons, List.set_cons_succ]
    rw [← ih, List.take_append, List.drop_append, bvs_length, bvs_length, h1]
    rw [List.take_of_length_le (by rw [bvs_length, h1]; omega), List.drop_eq_nil_of_le (by rw [bvs_length, h1]; omega)]
    rw [show (i + 1) * 128 - 128 = i * 128 by omega, show (i + 1) * 128 + l.length - 128 = i * 128 + l.length by omega]
    simp

theorem flat_over : ∀ {s : List (List UInt8)} (h : ∀ b ∈ s, b.length = 128) {i : Nat} {a : List UInt8}, i < s.length → a.length ≤ 128 → over (flat s) (i * 128) (bvs a) = flat (s.set i (a ++ (s.getD i []).drop a.length))
  | [], _, _, _, hi, _ => by simp at hi
  | b :: s, h, 0, a, hi, hl => by
    have h1 := h b (by simp)
    unfold over flat
    simp only [List.map_cons, List.flatten_cons, Nat.zero_mul, List.take_zero, List.nil_append, Nat.zero_add, List.set_cons_zero, bvs_length]
    rw [List.drop_append, bvs_length, h1, show a.length - 128 = 0 by omega]
    simp [bvs, List.getD]
  | b :: s, h, i + 1, a, hi, hl => by
    have h1 := h b (by simp)
    have ih := flat_over (s := s) (fun c hc => h c (by simp [hc])) (i := i) (a := a) (by simpa using hi) hl
    have e : (b :: s).getD (i + 1) [] = s.getD i [] := by simp [List.getD]
    rw [e]
    unfold over at ih ⊢
    unfold flat at ih ⊢
    simp only [List.map_cons, List.flatten_cons, List.set_cons_succ]
    rw [← ih, List.take_append, List.drop_append, bvs_length, bvs_length, h1]
    rw [List.take_of_length_le (by rw [bvs_length, h1]; omega), List.drop_eq_nil_of_le (by rw [bvs_length, h1]; omega)]
    rw [show (i + 1) * 128 - 128 = i * 128 by omega, show (i + 1) * 128 + a.length - 128 = i * 128 + a.length by omega]
    simp
theorem over_app (L T : List Value) (o : Nat) (cs : List Value) (h : o + cs.length ≤ L.length) : over (L ++ T) o cs = over L o cs ++ T := by
  unfold over
  rw [List.take_append_of_le_length (by omega), List.drop_append_of_le_length h]
  simp
/-- What a disk holds. -/
structure DS where
  s : List (List UInt8)
  S : Int → Option (List UInt8)
  fuse : Int
  down : Bool
  wr : Int
  fl : Int
  /-- How many sectors its row has room for, and the cells behind those that are there. -/
  cap : Nat
  tail : List Value

/-- A write or flush is paid. -/
def DS.spend (x : DS) : DS := if x.fuse = 0 then { x with fuse := -1, down := true } else if 0 < x.fuse then { x with fuse := x.fuse - 1 } else x
def DS.has (x : DS) (i : Int) : Bool := decide (0 ≤ i) && decide (i < (x.s.length : Int))
def upd (S : Int → Option (List UInt8)) (i : Int) (l : List UInt8) : Int → Option (List UInt8) := fun y => if y = i then some l else S y
/-- What Write answers. -/
def DS.wcode (x : DS) (i : Int) (l : Nat) : Int := if x.down = true then 50 else if x.has i = false then 1 else if 128 < l then 2 else if l < 128 then 6 else if x.fuse = 0 then 50 else 0
/-- What a disk is behind a Write. -/
def DS.write (x : DS) (i : Int) (b : List UInt8) : DS :=
  if x.down = true then x else if x.has i = false then x else if 128 < b.length then x else if b.length < 128 then x else if x.fuse = 0 then x.spend else { x.spend with S := upd x.S i b, wr := wrap64 (x.wr + 1) }
def DS.fcode (x : DS) : Int := if x.down = true then 50 else if x.fuse = 0 then 50 else 0
/-- The sectors with what was written laid over them, as far as left says no other. -/
def laid (s : List (List UInt8)) (S : Int → Option (List UInt8)) (left : Int → Bool) : List (List UInt8) := s.mapIdx fun i b => if left (i : Int) = true then b else (S (i : Int)).getD b
def DS.flush (x : DS) : DS :=
  if x.down = true then x else if x.fuse = 0 then x.spend else { x.spend with s := laid x.s x.S (fun _ => false), S := fun _ => none, fl := wrap64 (x.fl + 1) }
def DS.sure (x : DS) (i : Int) : List UInt8 × Int := if x.has i = false then ([], 1) else (x.s.getD i.toNat [], 0)
def DS.read (x : DS) (i : Int) : List UInt8 × Int := if x.down = true then ([], 50) else match x.S i with
  | some l => (l, 0)
  | none => x.sure i
def DS.settle (x : DS) (i at_ : Int) : DS := match x.S i with
  | some l => { x with s := x.s.set i.toNat (l.take (min (max at_ 0) 128).toNat ++ (x.s.getD i.toNat []).drop (min (max at_ 0) 128).toNat) }
  | none => x
def DS.crash (x : DS) (keep : List Int) (tear at_ : Int) : DS := { ((keep.foldl (fun y i => y.settle i 128) x).settle tear at_) with S := fun _ => none, fuse := -1, down := true }
def DS.up (x : DS) : DS := if x.down = true then { x with S := fun _ => none, down := false } else x
/-- Block d is a disk, its durable sectors at block g, the others in the map m of at most n. -/
structure DiskAt (P : Program) (w : World) (d g m n : Nat) (x : DS) : Prop where
  blk : w.heap[d]? = some (.cells #[.int .i64 x.wr, .int .i64 x.fl, .slice (some ⟨g, 0, none⟩) x.s.length x.cap, .map (some m), .int .i64 x.fuse, .bool x.down] 53 (0, 0))
  row : w.heap[g]? = some (.cells (flat x.s ++ x.tail).toArray 75 (0, 0))
  map : MapIs P 3 w m n x.S
  len : ∀ b ∈ x.s, b.length = 128
  ne : d ≠ g
  few : x.s.length ≤ 4096
  wfu : wfi x.fuse
  wwr : wfi x.wr
  wfl : wfi x.fl

variable {P : Program} {w w' : World} {d g m n : Nat} {x : DS}
theorem DiskAt.keep (h : DiskAt P w d g m n x) (h1 : w'.heap[d]? = w.heap[d]?) (h2 : w'.heap[g]? = w.heap[g]?) (h3 : w'.heap[m]? = w.heap[m]?) : DiskAt P w' d g m n x :=
  ⟨h1.trans h.blk, h2.trans h.row, h.map.keep h3, h.len, h.ne, h.few, h.wfu, h.wwr, h.wfl⟩
theorem DiskAt.md (h : DiskAt P w d g m n x) : m ≠ d := h.map.ne h.blk
theorem DiskAt.mg (h : DiskAt P w d g m n x) : m ≠ g := h.map.ne h.row
theorem DiskAt.dlt (h : DiskAt P w d g m n x) : d < w.heap.size := lt_of_row h.blk
theorem DiskAt.glt (h : DiskAt P w d g m n x) : g < w.heap.size := lt_of_row h.row
theorem DiskAt.mlt (h : DiskAt P w d g m n x) : m < w.heap.size := h.map.lt
theorem DiskAt.alloc (h : DiskAt P w d g m n x) (o : Obj) : DiskAt P (w.alloc o) d g m n x := h.keep (Below.heap_alloc w o d h.dlt) (Below.heap_alloc w o g h.glt) (Below.heap_alloc w o m h.mlt)
theorem DiskAt.drewN (h : DiskAt P w d g m n x) (i : Nat) : DiskAt P (w.drewN i) d g m n x := h.keep rfl rfl rfl
theorem DiskAt.mono {n' : Nat} (h : DiskAt P w d g m n x) (hn : n ≤ n') : DiskAt P w d g m n' x := ⟨h.blk, h.row, h.map.mono hn, h.len, h.ne, h.few, h.wfu, h.wwr, h.wfl⟩
/-- Its own blocks. -/
def own3 (d g m : Nat) (k : Nat) : Prop := k = d ∨ k = g ∨ k = m
theorem DiskAt.frame {T : Nat → Prop} (h : DiskAt P w d g m n x) (f : Frm T w w') (h1 : ¬ T d) (h2 : ¬ T g) (h3 : ¬ T m) : DiskAt P w' d g m n x := h.keep (f.block d h.dlt h1) (f.block g h.glt h2) (f.block m h.mlt h3)
theorem DiskAt.below {B : Nat} (h : DiskAt P w d g m n x) (f : Below B w w') (hB : w.heap.size ≤ B) : DiskAt P w' d g m n x := h.keep (f.block d (by have := h.dlt; omega)) (f.block g (by have := h.glt; omega)) (f.block m (by have := h.mlt; omega))
theorem DiskAt.cell (h : DiskAt P w d g m n x) (i : Nat) {v : Value} (hv : (#[.int .i64 x.wr, .int .i64 x.fl, .slice (some ⟨g, 0, none⟩) x.s.length x.cap, .map (some m), .int .i64 x.fuse, .bool x.down] : Array Value)[i]? = some v) : w.cell? ⟨d, i, none⟩ = some v := by
  rw [cell_of_row w d i _ _ _ h.blk]
  exact hv
theorem DiskAt.c0 (h : DiskAt P w d g m n x) : w.cell? ⟨d, 0, none⟩ = some (.int .i64 x.wr) := h.cell 0 rfl
theorem DiskAt.c1 (h : DiskAt P w d g m n x) : w.cell? ⟨d, 1, none⟩ = some (.int .i64 x.fl) := h.cell 1 rfl
theorem DiskAt.c2 (h : DiskAt P w d g m n x) : w.cell? ⟨d, 2, none⟩ = some (.slice (some ⟨g, 0, none⟩) x.s.length x.cap) := h.cell 2 rfl
theorem DiskAt.c3 (h : DiskAt P w d g m n x) : w.cell? ⟨d, 3, none⟩ = some (.map (some m)) := h.cell 3 rfl
theorem DiskAt.c4 (h : DiskAt P w d g m n x) : w.cell? ⟨d, 4, none⟩ = some (.int .i64 x.fuse) := h.cell 4 rfl
theorem DiskAt.c5 (h : DiskAt P w d g m n x) : w.cell? ⟨d, 5, none⟩ = some (.bool x.down) := h.cell 5 rfl
theorem DiskAt.free (h : DiskAt P w d g m n x) (i : Nat) : w.frozen? ⟨d, i, none⟩ = false := frozen_of_row w d i _ _ h.blk
theorem DiskAt.setWr (h : DiskAt P w d g m n x) {z : Int} (hz : wfi z) : DiskAt P (w.setCell ⟨d, 0, none⟩ (.int .i64 z)) d g m n { x with wr := z } :=
  ⟨Go.Joins.block_setCell (i := 0) h.blk (.int .i64 z), (Below.heap_setCell w ⟨d, 0, none⟩ _ g h.ne.symm).trans h.row, h.map.keep (Below.heap_setCell w ⟨d, 0, none⟩ _ m h.md), h.len, h.ne, h.few, h.wfu, hz, h.wfl⟩
theorem DiskAt.setFl (h : DiskAt P w d g m n x) {z : Int} (hz : wfi z) : DiskAt P (w.setCell ⟨d, 1, none⟩ (.int .i64 z)) d g m n { x with fl := z } :=
  ⟨Go.Joins.block_setCell (i := 1) h.blk (.int .i64 z), (Below.heap_setCell w ⟨d, 1, none⟩ _ g h.ne.symm).trans h.row, h.map.keep (Below.heap_setCell w ⟨d, 1, none⟩ _ m h.md), h.len, h.ne, h.few, h.wfu, h.wwr, hz⟩
theorem DiskAt.setFuse (h : DiskAt P w d g m n x) {z : Int} (hz : wfi z) : DiskAt P (w.setCell ⟨d, 4, none⟩ (.int .i64 z)) d g m n { x with fuse := z } :=
  ⟨Go.Joins.block_setCell (i := 4) h.blk (.int .i64 z), (Below.heap_setCell w ⟨d, 4, none⟩ _ g h.ne.symm).trans h.row, h.map.keep (Below.heap_setCell w ⟨d, 4, none⟩ _ m h.md), h.len, h.ne, h.few, hz, h.wwr, h.wfl⟩
theorem DiskAt.setDown (h : DiskAt P w d g m n x) (z : Bool) : DiskAt P (w.setCell ⟨d, 5, none⟩ (.bool z)) d g m n { x with down := z } :=
  ⟨Go.Joins.block_setCell (i := 5) h.blk (.bool z), (Below.heap_setCell w ⟨d, 5, none⟩ _ g h.ne.symm).trans h.row, h.map.keep (Below.heap_setCell w ⟨d, 5, none⟩ _ m h.md), h.len, h.ne, h.few, h.wfu, h.wwr, h.wfl⟩
theorem DiskAt.setMap (h : DiskAt P w d g m n x) {n' : Nat} {S' : Int → Option (List UInt8)} (ht : w.mapTurned w' m) (h' : MapIs P 3 w' m n' S') : DiskAt P w' d g m n' { x with S := S' } :=
  ⟨(ht.grown.block d h.dlt (by intro e; cases e; exact h.md rfl)).trans h.blk, (ht.grown.block g h.glt (by intro e; cases e; exact h.mg rfl)).trans h.row, h', h.len, h.ne, h.few, h.wfu, h.wwr, h.wfl⟩
theorem DiskAt.setSure (h : DiskAt P w d g m n x) {i : Nat} {l : List UInt8} (hi : i < x.s.length) (hl : l.length = 128) : DiskAt P (w.setCells g (i * 128) (bvs l)) d g m n { x with s := x.s.set i l } := by
  refine ⟨?_, ?_, h.map.keep (setCells_other h.mg _ _ _), ?_, h.ne, by simpa using h.few, h.wfu, h.wwr, h.wfl⟩
  · rw [setCells_other h.ne]
    simpa using h.blk
  · rw [← flat_set h.len hi hl, ← over_app _ _ _ _ (by rw [bvs_length, hl, flat_length h.len]; omega)]
    exact heap_setCells (w := w) _ _ _ _ h.row (by rw [List.length_append, bvs_length, hl, flat_length h.len]; omega)
  · intro b hb
    rcases List.mem_or_eq_of_mem_set hb with hb | rfl
    · exact h.len b hb
    · exact hl
theorem DiskAt.setOver (h : DiskAt P w d g m n x) {i : Nat} {a : List UInt8} (hi : i < x.s.length) (ha : a.length ≤ 128) : DiskAt P (w.setRow g (over (flat x.s ++ x.tail) (i * 128) (bvs a)).toArray) d g m n { x with s := x.s.set i (a ++ (x.s.getD i []).drop a.length) } := by
  refine ⟨?_, ?_, h.map.keep (setRow_other w g m _ h.mg), ?_, h.ne, by simpa using h.few, h.wfu, h.wwr, h.wfl⟩
  · rw [setRow_other w g d _ h.ne]
    simpa using h.blk
  · rw [over_app _ _ _ _ (by rw [bvs_length, flat_length h.len]; omega), flat_over h.len hi ha]
    exact setRow_heap w g _ _ _ _ h.row
  · intro b hb
    rcases List.mem_or_eq_of_mem_set hb with hb | rfl
    · exact h.len b hb
    · have := h.len _ (List.getElem_mem hi)
      simp [List.getD, hi, this]
      omega
theorem DiskAt.there (h : DiskAt P w d g m n x) {k : Nat} (hk : k < x.s.length) {l : List UInt8} (hl : l.length = 128) : w.there g (k * 128) (bvs l).toArray.size := by
  intro j hj
  have e1 := flat_length h.len
  rw [List.size_toArray, bvs_length, hl] at hj
  have hlt : k * 128 + j < (flat x.s ++ x.tail).length := by rw [List.length_append, e1]; omega
  refine ⟨?_, frozen_of_row w g _ _ _ h.row⟩
  rw [cell_of_row w g (k * 128 + j) _ _ _ h.row]
  rw [List.length_append] at hlt
  simp [hlt]
/-- A durable sector's cells. -/
theorem DiskAt.sector (h : DiskAt P w d g m n x) {i : Nat} {l : List UInt8} (hi : x.s[i]? = some l) : w.rangeAt g (i * 128) (bvs l) := by
  intro j v hj
  rw [cell_of_row w g (i * 128 + j) _ _ _ h.row]
  have hf := flat_at h.len hi j v hj
  rw [List.getElem?_toArray, List.getElem?_append_left (List.getElem?_eq_some_iff.1 hf).1]
  exact hf
end Go.Proofs.Ythcliaaoadfegaa.Dk
