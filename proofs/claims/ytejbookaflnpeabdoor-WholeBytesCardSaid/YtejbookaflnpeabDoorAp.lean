/- A part is added. -/
import Derived.Test.YtejbookaflnpeabDoorMx
import Derived.Laws.CopyOwn
namespace Go.Proofs.YtejbookaflnpeabDoor
open Go Go.RowKit
set_option linter.unusedVariables false

/-- A hash: the eight numbers, the block, and how many bytes there were. -/
structure HS where
  G : List Nat
  B : List UInt8
  n : Nat
/-- One byte more. -/
def feed1 (S K : List Nat) (h : HS) (x : UInt8) : HS :=
  if (h.n + 1) % 64 = 0 then ⟨mixG h.G S K (h.B.set (h.n % 64) x), h.B.set (h.n % 64) x, h.n + 1⟩ else ⟨h.G, h.B.set (h.n % 64) x, h.n + 1⟩
def feed (S K : List Nat) (h : HS) (xs : List UInt8) : HS := xs.foldl (feed1 S K) h
/-- Some bytes are laid over others from a place on. -/
def lay (B : List UInt8) (k : Nat) (xs : List UInt8) : List UInt8 := B.take k ++ xs ++ B.drop (k + xs.length)
theorem lay_length (B : List UInt8) (k : Nat) (xs : List UInt8) (h : k + xs.length ≤ B.length) : (lay B k xs).length = B.length := by simp [lay]; omega
theorem lay_cons (B : List UInt8) (k : Nat) (x : UInt8) (xs : List UInt8) (h : k + xs.length < B.length) : lay B k (x :: xs) = lay (B.set k x) (k + 1) xs := by
  unfold lay
  have hk : k < B.length := by omega
  rw [List.take_set, List.drop_set, List.length_cons]
  rw [if_pos (by omega)]
  rw [List.take_succ_eq_append_getElem hk, List.set_append_right _ _ (by simp; omega)]
  simp [Nat.min_eq_left (Nat.le_of_lt hk)]
  omega
/-- Within a block: what is copied, and behind the block's last byte it is mixed. -/
theorem feed_block (S K : List Nat) : ∀ (xs : List UInt8) (h : HS), h.B.length = 64 → 0 < xs.length → h.n % 64 + xs.length ≤ 64 →
    feed S K h xs = if (h.n + xs.length) % 64 = 0 then ⟨mixG h.G S K (lay h.B (h.n % 64) xs), lay h.B (h.n % 64) xs, h.n + xs.length⟩ else ⟨h.G, lay h.B (h.n % 64) xs, h.n + xs.length⟩
  | [], _, _, h0, _ => by simp at h0
  | [x], h, hB, _, hl => by
    have e : lay h.B (h.n % 64) [x] = h.B.set (h.n % 64) x := by
      simp at hl
      rw [lay_cons _ _ _ _ (by simp; omega)]
      simp [lay]
    simp only [feed, List.foldl_cons, List.foldl_nil, feed1, e, List.length_cons, List.length_nil, Nat.zero_add]
  | x :: y :: xs, h, hB, _, hl => by
    simp only [List.length_cons] at hl
    have h1 : ¬ (h.n + 1) % 64 = 0 := by omega
    have hm : (h.n + 1) % 64 = h.n % 64 + 1 := by omega
    have ih := feed_block S K (y :: xs) ⟨h.G, h.B.set (h.n % 64) x, h.n + 1⟩ (by simpa using hB) (by simp) (by simp only [List.length_cons]; omega)
    have e := lay_cons h.B (h.n % 64) x (y :: xs) (by simp only [List.length_cons]; omega)
    simp only [feed, List.foldl_cons] at ih ⊢
    simp only [feed1, h1, if_false]
    rw [← hm] at e
    simp only [feed1] at ih
    rw [ih, ← e]
    simp only [List.length_cons, show h.n + 1 + (xs.length + 1) = h.n + (xs.length + 1 + 1) by omega]

/-- A slice with the bytes xs that lies apart from block b. -/
def Src (w : World) (b : Nat) (v : Value) (xs : List UInt8) : Prop :=
  ∃ ao c, v = .slice ao xs.length c ∧ xs.length ≤ c ∧ (ao = none → xs.length = 0) ∧ ∀ a, ao = some a → 0 < xs.length → a.block ≠ b ∧ a.block < w.heap.size ∧ ∀ j u, (bvs xs)[j]? = some u → w.cell? (a.add j) = some u
theorem Src.hs {w w' : World} {b : Nat} {v : Value} {xs : List UInt8} (h : Src w b v xs) (hh : Hs w w' b) : Src w' b v xs := by
  obtain ⟨ao, c, hv, hc, hno, hs⟩ := h
  refine ⟨ao, c, hv, hc, hno, fun a ha hp => ?_⟩
  obtain ⟨h1, h2, h3⟩ := hs a ha hp
  refine ⟨h1, Nat.lt_of_lt_of_le h2 hh.size, fun j u hu => ?_⟩
  have hblk : (a.add j).block = a.block := by unfold Addr.add; split <;> rfl
  rw [World.cell?_of_block (w := w) (hh.block (a.add j).block (by rw [hblk]; exact h2) (by rw [hblk]; exact h1))]
  exact h3 j u hu
theorem HashAt.laid {w : World} {b : Nat} {G : List Nat} {B : List UInt8} {n : Nat} (h : HashAt w b G B n) (k : Nat) (ys : List UInt8) (hk : k + ys.length ≤ 64) (cells : Array Value)
    (hc : cells = ((hcells G B n).toArray.toList.take (8 + k) ++ (bvs ys ++ (hcells G B n).toArray.toList.drop (8 + k + (bvs ys).length))).toArray) : HashAt (w.setRow b cells) b G (lay B k ys) n := by
  obtain ⟨h1, h2, h3⟩ := h
  refine ⟨h1, by rw [lay_length _ _ _ (by omega)]; exact h2, ?_⟩
  rw [setRow_heap w b _ _ _ _ h3, hc]
  congr 3
  have e1 : (hcells G B n).take (8 + k) = u32s G ++ bvs (B.take k) := by
    unfold hcells
    rw [List.append_assoc, List.take_append, u32s_length, h1, List.take_of_length_le (by rw [u32s_length]; omega), show 8 + k - 8 = k by omega, List.take_append_of_le_length (by rw [bvs_length]; omega)]
    simp [bvs, List.map_take]
  have e2 : (hcells G B n).drop (8 + k + (bvs ys).length) = bvs (B.drop (k + ys.length)) ++ [.int .u64 (n : Int)] := by
    unfold hcells
    rw [bvs_length, List.append_assoc, List.drop_append, u32s_length, h1, List.drop_of_length_le (by rw [u32s_length]; omega), List.nil_append, show 8 + k + ys.length - 8 = k + ys.length by omega, List.drop_append_of_le_length (by rw [bvs_length]; omega)]
    simp [bvs, List.map_drop]
  rw [List.toList_toArray, e1, e2]
  unfold hcells lay
  simp [bvs]
theorem HashAt.setN {w : World} {b : Nat} {G : List Nat} {B : List UInt8} {n : Nat} (h : HashAt w b G B n) (m : Nat) (x : Int) (hx : x = (m : Int)) : HashAt (w.setCell ⟨b, 72, none⟩ (.int .u64 x)) b G B m := by
  subst hx
  refine ⟨h.1, h.2.1, ?_⟩
  rw [heap_setCell_same w b 72 _ _ _ h.2.2]
  have : (hcells G B n).set 72 (.int .u64 (m : Int)) = hcells G B m := by
    unfold hcells
    rw [List.set_append_right _ _ (by simp [u32s_length, bvs_length, h.1, h.2.1])]
    simp [u32s_length, bvs_length, h.1, h.2.1]
  rw [← this]; simp
end Go.Proofs.YtejbookaflnpeabDoor
