/- The sum of all bytes so far: Hash.Sum. -/
import Derived.Test.YtnfobnnbeefeeaaGreatDoorGS3
import Derived.Test.YtnfobnnbeefeeaaGreatDoorRows
namespace Go.Proofs.YtnfobnnbeefeeaaGreatDoor.Sm
open Go Go.RowKit
set_option linter.unusedVariables false

theorem HashAt.all {w : World} {b : Nat} {G : List Nat} {B : List UInt8} {n : Nat} (h : HashAt w b G B n) : (hcells G B n).length = 73 := by simp [hcells, u32s_length, bvs_length, h.1, h.2.1]
theorem hcells_one (G : List Nat) (B : List UInt8) (n : Nat) : ∀ v ∈ hcells G B n, v.oneCell' = true := by
  intro v hv
  simp only [hcells, List.mem_append, List.mem_singleton, u32s, bvs, List.mem_map] at hv
  rcases hv with (⟨_, _, rfl⟩ | ⟨_, _, rfl⟩) | rfl <;> rfl
/-- Filling's row is a source for a hash apart from it. -/
theorem Src.ofRow {w : World} {b g : Nat} {l : List UInt8} {k : Nat} (hk : l.length = k) (hg : w.heap[g]? = some (.cells (bvs l).toArray 5 (0, 0))) (hne : g ≠ b) : Src w b (.slice (some ⟨g, 0, none⟩) k k) l := by
  subst hk
  refine ⟨some ⟨g, 0, none⟩, l.length, rfl, Nat.le_refl _, (by intro e; cases e), fun a ha _ => ?_⟩
  cases ha
  refine ⟨hne, (Array.getElem?_eq_some_iff.1 hg).1, fun j u hu => ?_⟩
  rw [Addr.add_mid, Nat.zero_add, cell_of_row w g j _ _ _ hg]
  simpa using hu
/-- The zero Hash. -/
def Z73 : Array Value := (hcells (List.replicate 8 0) (List.replicate 64 0) 0).toArray
theorem info_hash : (Tryz.prog.info? 154).bind (·.zero) = some (.agg Z73) := by kernel_rfl
theorem zero_hash (w : World) : (zeroValue 154).run Tryz.prog w = .ok (.agg Z73) w := by
  obtain ⟨i, hi, hz⟩ := Option.bind_eq_some_iff.1 info_hash
  simp [zeroValue, typeInfo, hi, hz]
end Go.Proofs.YtnfobnnbeefeeaaGreatDoor.Sm
/- Feeding whole blocks, and the filling: the plain parts of SHA-256. -/
namespace Go.Proofs.YtnfobnnbeefeeaaGreatDoor.Sm
open Go Go.RowKit
set_option linter.unusedVariables false

/-- A block into the eight numbers. -/
def mixR (K H : List Nat) (B : List UInt8) : List Nat := zip8 H (rnds (exs B 48) K (S8.of H) 64).list
theorem zip8_get (G S : List Nat) {i : Nat} (hi : i < 8) : (zip8 G S).getD i 0 = (G.getD i 0 + S.getD i 0) % 4294967296 := by
  simp [zip8, List.getD, hi]
theorem zip8_swap (G N S : List Nat) : zip8 (zip8 G N) S = zip8 (zip8 G S) N := by
  unfold zip8
  apply List.map_congr_left
  intro i hi
  have h8 : i < 8 := List.mem_range.1 hi
  have e1 := zip8_get G N h8
  have e2 := zip8_get G S h8
  unfold zip8 at e1 e2
  rw [e1, e2]
  omega
theorem mixG_R (G S K : List Nat) (B : List UInt8) : zip8 (mixG G S K B) S = mixR K (zip8 G S) B := by
  unfold mixG mixR
  exact zip8_swap _ _ _
def chunk (xs : List UInt8) (i : Nat) : List UInt8 := (xs.drop (64 * i)).take 64
def blocksR (K H : List Nat) (xs : List UInt8) : Nat → List Nat
  | 0 => H
  | i + 1 => mixR K (blocksR K H xs i) (chunk xs i)
theorem lay_whole (B c : List UInt8) (hB : B.length = 64) (hc : c.length = 64) : lay B 0 c = c := by
  simp [lay, hc, ← hB]
theorem feed_blocks (S K : List Nat) (h : HS) (hB : h.B.length = 64) (hn : h.n % 64 = 0) (xs : List UInt8) : ∀ m, 64 * m ≤ xs.length →
    ∃ G' B', B'.length = 64 ∧ feed S K h (xs.take (64 * m)) = ⟨G', B', h.n + 64 * m⟩ ∧ zip8 G' S = blocksR K (zip8 h.G S) xs m
  | 0, _ => ⟨h.G, h.B, hB, by simp [feed], rfl⟩
  | m + 1, hm => by
    obtain ⟨G', B', hB', hf, hz⟩ := feed_blocks S K h hB hn xs m (by omega)
    have hc : (chunk xs m).length = 64 := by simp [chunk]; omega
    have e : xs.take (64 * (m + 1)) = xs.take (64 * m) ++ chunk xs m := by
      rw [show 64 * (m + 1) = 64 * m + 64 by omega, List.take_add]; rfl
    refine ⟨mixG G' S K (chunk xs m), chunk xs m, hc, ?_, ?_⟩
    · rw [e, feed_append, hf, feed_block S K (chunk xs m) ⟨G', B', h.n + 64 * m⟩ hB' (by omega) (by rw [hc]; show (h.n + 64 * m) % 64 + 64 ≤ 64; omega)]
      have h0 : (h.n + 64 * m) % 64 = 0 := by omega
      simp only [hc, h0]
      rw [if_pos (by omega), lay_whole _ _ hB' hc]
      congr 1
    · rw [mixG_R, hz]; rfl
/-- The bytes of some numbers, the highest first. -/
def ob1 (x : Nat) : List UInt8 := [UInt8.ofNat (x / 16777216), UInt8.ofNat (x / 65536), UInt8.ofNat (x / 256), UInt8.ofNat x]
def ob (l : List Nat) : List UInt8 := l.flatMap ob1
theorem ob_length (l : List Nat) : (ob l).length = 4 * l.length := by
  induction l with
  | nil => rfl
  | cons x l ih => simp [ob, ob1] at ih ⊢; omega
/-- What is told behind so many bytes. -/
def shaOf (S K : List Nat) (h : HS) : List UInt8 := ob (zip8 (feed S K h (FL h.n (64 - (h.n + 8) % 64) 8)).G S)
theorem shaOf_length (S K : List Nat) (h : HS) : (shaOf S K h).length = 32 := by
  unfold shaOf
  rw [ob_length, zip8_length]
def H0 : HS := ⟨List.replicate 8 0, List.replicate 64 0, 0⟩
theorem feed_B (S K : List Nat) : ∀ (xs : List UInt8) (h : HS), (feed S K h xs).B.length = h.B.length
  | [], h => rfl
  | x :: xs, h => by
    show (feed S K (feed1 S K h x) xs).B.length = _
    rw [feed_B S K xs]
    unfold feed1
    split <;> simp
/-- The filling. -/
def be8 (n : Nat) : List UInt8 := [flb n 7, flb n 6, flb n 5, flb n 4, flb n 3, flb n 2, flb n 1, flb n 0]
theorem FL_eq (n t : Nat) (ht : 0 < t) : FL n t 8 = 128 :: (List.replicate (t - 1) 0 ++ be8 n) := by
  obtain ⟨k, rfl⟩ : ∃ k, t = k + 1 := ⟨t - 1, by omega⟩
  have e : List.replicate (k + 1 + 8) (0 : UInt8) = 0 :: (List.replicate k 0 ++ List.replicate 8 0) := by
    rw [show k + 1 + 8 = (k + 8) + 1 by omega, List.replicate_succ, List.replicate_append_replicate]
  have st : ∀ (l : List UInt8) (j : Nat) (x : UInt8), (128 :: (List.replicate k 0 ++ l)).set (k + 1 + j) x = 128 :: (List.replicate k 0 ++ l.set j x) := by
    intro l j x
    rw [show k + 1 + j = (k + j) + 1 by omega, List.set_cons_succ, List.set_append_right _ _ (by simp)]
    simp
  simp only [FL, e, List.set_cons_zero]
  rw [show k + 1 + 7 - 0 = k + 1 + 7 by omega, show k + 1 + 7 - 1 = k + 1 + 6 by omega, show k + 1 + 7 - 2 = k + 1 + 5 by omega, show k + 1 + 7 - 3 = k + 1 + 4 by omega,
    show k + 1 + 7 - 4 = k + 1 + 3 by omega, show k + 1 + 7 - 5 = k + 1 + 2 by omega, show k + 1 + 7 - 6 = k + 1 + 1 by omega, show k + 1 + 7 - 7 = k + 1 + 0 by omega]
  rw [st, st, st, st, st, st, st, st]
  rfl
def padded (xs : List UInt8) : List UInt8 := xs ++ 128 :: (List.replicate (64 - (xs.length + 8) % 64 - 1) 0 ++ be8 xs.length)
theorem padded_length (xs : List UInt8) : (padded xs).length = 64 * ((padded xs).length / 64) := by
  have : (padded xs).length = xs.length + 1 + (64 - (xs.length + 8) % 64 - 1) + 8 := by simp [padded, be8]; omega
  omega
theorem zip8_zero (S : List Nat) (hS : S.length = 8) (hlt : ∀ x ∈ S, x < 4294967296) : zip8 (List.replicate 8 0) S = S := by
  match S, hS with
  | [a, b, c, d, e, f, g, h], _ =>
    simp only [List.mem_cons, List.not_mem_nil, or_false, forall_eq_or_imp, forall_eq] at hlt
    obtain ⟨h1, h2, h3, h4, h5, h6, h7, h8⟩ := hlt
    simp [zip8, List.range_succ, Nat.mod_eq_of_lt, *]
/-- The SHA-256 of bytes, as the standard has it. -/
def shaR (S K : List Nat) (xs : List UInt8) : List UInt8 := ob (blocksR K S (padded xs) ((padded xs).length / 64))
theorem sha_R (S K : List Nat) (hS : S.length = 8) (hlt : ∀ x ∈ S, x < 4294967296) (xs : List UInt8) : shaOf S K (feed S K H0 xs) = shaR S K xs := by
  unfold shaOf shaR
  have hn : (feed S K H0 xs).n = xs.length := by rw [feed_n]; simp [H0]
  rw [hn, ← feed_append, FL_eq _ _ (by omega)]
  obtain ⟨G', B', hB', hf, hz⟩ := feed_blocks S K H0 (by simp [H0]) rfl (padded xs) ((padded xs).length / 64) (by omega)
  rw [← padded_length, List.take_length] at hf
  show ob (zip8 (feed S K H0 (padded xs)).G S) = _
  rw [hf]
  show ob (zip8 G' S) = _
  rw [hz]
  simp only [H0]
  rw [zip8_zero S hS hlt]
end Go.Proofs.YtnfobnnbeefeeaaGreatDoor.Sm
/- The sum of all bytes so far: Hash.Sum. -/
namespace Go.Proofs.YtnfobnnbeefeeaaGreatDoor.Sm
open Go Go.RowKit
set_option linter.unusedVariables false

def Z32 : List Value := bvs (List.replicate 32 0)
theorem Z32_eq : Z32.toArray = #[.int .u8 0, .int .u8 0, .int .u8 0, .int .u8 0, .int .u8 0, .int .u8 0, .int .u8 0, .int .u8 0, .int .u8 0, .int .u8 0, .int .u8 0, .int .u8 0, .int .u8 0, .int .u8 0, .int .u8 0, .int .u8 0, .int .u8 0, .int .u8 0, .int .u8 0, .int .u8 0, .int .u8 0, .int .u8 0, .int .u8 0, .int .u8 0, .int .u8 0, .int .u8 0, .int .u8 0, .int .u8 0, .int .u8 0, .int .u8 0, .int .u8 0, .int .u8 0] := by kernel_rfl
/-- Up to the first i numbers' bytes. -/
def obTo (l : List Nat) (i : Nat) : List UInt8 := ob (l.take i) ++ List.replicate (32 - 4 * i) 0
def HtRel (w : World) (g gs : Nat) (l : List Nat) (u : Value) (wr : World) : Prop :=
  ∃ i : Nat, u = .int .i64 (i : Int) ∧ i ≤ 8 ∧ wr.heap[g]? = some (.cells (bvs (obTo l i)).toArray 23 (0, 0)) ∧ wr.heap[gs]? = some (.cells (u32s l).toArray 151 (0, 0)) ∧ wr.heap[w.heap.size]? = some (.cells Z32.toArray 23 (0, 0)) ∧ Below w.heap.size w wr
theorem Tables.below {w w' : World} {S K : List Nat} {B : Nat} (h : Tables w S K) (hB : Below B w w') (hs : w.heap.size ≤ B) : Tables w' S K :=
  h.hs (b := w.heap.size) ⟨hB.os, hB.tape, hB.output, hB.size, fun g hg _ => hB.block g (by omega)⟩ (by have := h.lt; omega) (by have := h.lt; omega)

theorem Tryz.len32 : Tryz.prog.arrayLen 23 = 32 := by kernel_rfl
/-- A sum, cut from a place on. -/
theorem slice32 (g l : Nat) (x : Int) (hx : x = (l : Int)) (hl : l < 32) (k : IntKind) (w : World) :
    (Instr.sliceAt 23 (.pointer (some ⟨g, 0, none⟩)) (some (.int k x)) none none).run Tryz.prog w = .ok (.slice (some ⟨g, l, none⟩) (32 - l) (32 - l)) w := by
  subst hx
  have h := run_sliceAt_array_l (P := Tryz.prog) w 23 ⟨g, 0, none⟩ (by kernel_rfl) k (l : Int) (by omega) (by rw [Tryz.len32]; omega)
  obtain ⟨i0, hi, hz0, hz1, hz2⟩ := info_parts Tryz.info5
  have he : Tryz.prog.elem 23 = 5 := by kernel_rfl
  have hsz : (sizeOf 5).run Tryz.prog w = .ok 1 w := by simp [sizeOf, typeInfo, hi, hz1]
  rw [h, Tryz.len32, he, hsz]
  simp only [Result.andThen_ok, slicedAt, Int.toNat_natCast, Nat.mul_one]
  rw [if_neg (by omega), Addr.add_mid, Nat.zero_add]
theorem obTo_succ (l : List Nat) (hl : l.length = 8) (i : Nat) (hi : i < 8) : (obTo l i).take (4 * i) ++ (ob1 (l.getD i 0) ++ (obTo l i).drop (4 * i + 4)) = obTo l (i + 1) := by
  have hg : l.getD i 0 = l[i] := by simp [List.getD, hl, hi]
  have h1 : (ob (l.take i)).length = 4 * i := by rw [ob_length, List.length_take]; omega
  have h2 : ob (l.take (i + 1)) = ob (l.take i) ++ ob1 l[i] := by
    rw [List.take_succ_eq_append_getElem (by omega)]
    unfold ob
    rw [List.flatMap_append]
    simp
  unfold obTo
  rw [h2, hg, List.take_append_of_le_length (by omega), List.take_of_length_le (by omega), List.drop_append, List.drop_of_length_le (by omega), h1, List.nil_append, List.append_assoc]
  congr 2
  rw [List.drop_replicate]
  congr 1
  omega
theorem four_bytes (x : Nat) (hx : x < 4294967296) : (#[.int .u8 ((x : Int) / 16777216), .int .u8 ((x : Int) / 65536 % 256), .int .u8 ((x : Int) / 256 % 256), .int .u8 ((x : Int) % 256)] : Array Value) = (bvs (ob1 x)).toArray := by
  simp [bvs, bv, ob1]
  omega
set_option maxRecDepth 100000 in
set_option maxHeartbeats 2000000 in
theorem sum_any {w : World} {b : Nat} {h0 : HS} (h : HashAt w b h0.G h0.B h0.n) {S K : List Nat} (ht : Tables w S K) (hn : h0.n < 1152921504606846976) :
    Calls Tryz.prog 133 #[.pointer (some ⟨b, 0, none⟩)] w fun e w' => e = .returned (.agg (bvs (shaOf S K h0)).toArray) ∧ Below w.heap.size w w' := by
  have hb := h.lt
  have HH := Lib.hid h
  have HT := Lib.hid ht
  have sz := Lib.hid (show (Tryz.prog.info? 154).map (·.size) = some (hcells h0.G h0.B h0.n).toArray.size by rw [List.size_toArray, h.all]; kernel_rfl)
  have s1 := Lib.hid (show (hcells h0.G h0.B h0.n).toArray.all (·.oneCell') = true from all_oneCell_toArray (hcells_one _ _ _))
  have so := Lib.hid (show Z73.size = (hcells h0.G h0.B h0.n).toArray.size by simp only [List.size_toArray]; rw [h.all]; rfl)
  have nh := Lib.hid (fun o => (show ((w.alloc o).alloc (.cells Z73 154)).heap[w.heap.size + 1]? = some (.cells Z73 154 (0, 0)) by
    have := heap_alloc_new (w.alloc o) (.cells Z73 154)
    rwa [World.size_alloc] at this))
  clear h ht
  have zc := zero_hash
  have ld := Lib.hid (fun o => (Below.heap_alloc w o b hb).trans HH.out.2.2)
  go_enter Tryz.func133, Tryz.ntmps133
  go_wp2_with (first
    | (refine wpList_load_row rfl 154 (.tmp 9) rfl b rfl 154 (hcells h0.G h0.B h0.n).toArray (0, 0) _ (ld.out _) Tryz.underlying154 rfl sz.out ?_)
    | (refine wpList_store_all rfl 154 (.tmp 3) (.tmp 10) rfl (w.heap.size + 1) 154 _ (hcells h0.G h0.B h0.n).toArray rfl rfl (nh.out _) sz.out so.out s1.out ?_))
  obtain ⟨w2, hw2⟩ : ∃ w2, w2 = ((w.alloc (.cells #[.int .u8 0, .int .u8 0, .int .u8 0, .int .u8 0, .int .u8 0, .int .u8 0, .int .u8 0, .int .u8 0, .int .u8 0, .int .u8 0, .int .u8 0, .int .u8 0, .int .u8 0, .int .u8 0, .int .u8 0, .int .u8 0, .int .u8 0, .int .u8 0, .int .u8 0, .int .u8 0, .int .u8 0, .int .u8 0, .int .u8 0, .int .u8 0, .int .u8 0, .int .u8 0, .int .u8 0, .int .u8 0, .int .u8 0, .int .u8 0, .int .u8 0, .int .u8 0] 23)).alloc (.cells Z73 154)).setRow (w.heap.size + 1) (hcells h0.G h0.B h0.n).toArray := ⟨_, rfl⟩
  rw [← hw2]
  have B2 : Below w.heap.size w w2 := by
    rw [hw2]
    exact below_setRow (((Below.refl _ _).alloc (Nat.le_refl _) _).alloc (by simp) _) (by omega) _
  have e2 : w2.heap[w.heap.size + 1]? = some (.cells (hcells h0.G h0.B h0.n).toArray 154 (0, 0)) := by
    rw [hw2]
    exact setRow_heap _ _ _ _ _ _ (nh.out _)
  have z2 : w2.heap[w.heap.size]? = some (.cells Z32.toArray 23 (0, 0)) := by
    rw [hw2, setRow_other _ _ _ _ (by omega), Below.heap_alloc _ _ _ (by simp), Z32_eq]
    exact heap_alloc_new w _
  have n2 : w2.heap.size = w.heap.size + 2 := by rw [hw2]; simp
  have hH2 : HashAt w2 b h0.G h0.B h0.n := HH.out.below B2 hb
  have hE2 : HashAt w2 (w.heap.size + 1) h0.G h0.B h0.n := ⟨HH.out.1, HH.out.2.1, e2⟩
  have T2 := HT.out.below B2 (Nat.le_refl _)
  have F := filling_any hH2 hn
  have TL := HT.out.lt
  have FF := Lib.hid F
  have HT2 := Lib.hid T2
  have HE2 := Lib.hid hE2
  have HZ2 := Lib.hid z2
  have N2 := Lib.hid n2
  clear F T2 hH2 e2 hw2 ld nh so s1 sz zc hE2 z2 n2
  refine FF.out.mono ?_
  rintro e w3 ⟨t, ht, rfl, r3, B3⟩
  have n2 := N2.out
  have hR3 : Src w3 (w.heap.size + 1) (.slice (some ⟨w2.heap.size, 0, none⟩) (t + 8) (t + 8)) (FL h0.n t 8) := Src.ofRow (FL_length _ _ _) r3 (by omega)
  have A := addPart_at (HE2.out.below B3 (by omega)) (HT2.out.below B3 (Nat.le_refl _)) (by omega) (by omega) hR3 (by rw [FL_length]; omega)
  have HA := Lib.hid A
  have Ht := Lib.hid ht
  have T3 := Lib.hid (HT2.out.below B3 (Nat.le_refl _))
  have B3' := B2.trans (B3.mono (by omega))
  have z3 : w3.heap[w.heap.size]? = some (.cells Z32.toArray 23 (0, 0)) := (B3.block _ (by omega)).trans HZ2.out
  have n3 := B3.size
  have Z3 := Lib.hid z3
  clear FF A ht hR3 r3 HE2 HZ2 HT2 z3 n2
  go_wp2_with fail
  refine HA.out.mono ?_
  rintro e w4 ⟨rfl, hH4, R4⟩
  have n2 := N2.out
  have T4 : Tables w4 S K := T3.out.hs R4 (by omega) (by omega)
  have B4 : Below w.heap.size w w4 := B3'.trans ⟨R4.os, R4.tape, R4.output, R4.size, fun g hg => R4.block g (by omega) (by omega)⟩
  have z4 : w4.heap[w.heap.size]? = some (.cells Z32.toArray 23 (0, 0)) := (R4.block _ (by omega) (by omega)).trans Z3.out
  have n4 := R4.size
  obtain ⟨w5, hw5⟩ : ∃ w5, w5 = w4.alloc (.cells #[.int .u8 0, .int .u8 0, .int .u8 0, .int .u8 0, .int .u8 0, .int .u8 0, .int .u8 0, .int .u8 0, .int .u8 0, .int .u8 0, .int .u8 0, .int .u8 0, .int .u8 0, .int .u8 0, .int .u8 0, .int .u8 0, .int .u8 0, .int .u8 0, .int .u8 0, .int .u8 0, .int .u8 0, .int .u8 0, .int .u8 0, .int .u8 0, .int .u8 0, .int .u8 0, .int .u8 0, .int .u8 0, .int .u8 0, .int .u8 0, .int .u8 0, .int .u8 0] 23) := ⟨_, rfl⟩
  have B45 : Below w4.heap.size w4 w5 := by rw [hw5]; exact (Below.refl _ _).alloc (Nat.le_refl _) _
  have s5 : w5.heap[w4.heap.size]? = some (.cells Z32.toArray 23 (0, 0)) := by rw [hw5, Z32_eq]; exact heap_alloc_new w4 _
  have n5 : w5.heap.size = w4.heap.size + 1 := by rw [hw5]; simp
  have ST := state_any (hH4.below B45 (by omega)) S T4.1 (T4.below B45 (Nat.le_refl _)).2.2.1
  have HST := Lib.hid ST
  have z5 : w5.heap[w.heap.size]? = some (.cells Z32.toArray 23 (0, 0)) := (B45.block _ (by omega)).trans z4
  have B5 := B4.trans (B45.mono (by omega))
  have Z5 := Lib.hid z5
  have S5 := Lib.hid s5
  have HW5 := Lib.hid hw5
  have N5 := Lib.hid n5
  clear ST HA Z3 T3 z4 s5 z5 hH4 T4 R4 B45 hw5 n2 n5
  go_wp2_with fail
  rw [← HW5.out]
  refine HST.out.mono ?_
  rintro e w6 ⟨rfl, B6⟩
  have n5 := N5.out
  have n2 := N2.out
  have hl8 := zip8_length (feed S K h0 (FL h0.n t 8)).G S
  obtain ⟨l, hl⟩ : ∃ l, l = zip8 (feed S K h0 (FL h0.n t 8)).G S := ⟨_, rfl⟩
  rw [← hl] at hl8 ⊢
  have B6' := B5.trans (B6.mono (by omega))
  have n6 := B6.size
  have z6 := Lib.hid ((B6.block _ (by omega)).trans Z5.out)
  have s6 := Lib.hid ((B6.block _ (by omega)).trans S5.out)
  have hll : ∀ x ∈ l, x < 4294967296 := by
    intro x hx
    rw [hl] at hx
    simp only [zip8, List.mem_map] at hx
    obtain ⟨_, _, rfl⟩ := hx
    exact Nat.mod_lt _ (by decide)
  have HL := Lib.hid hl
  have g4 : w.heap.size < w4.heap.size := by omega
  have g5 : w4.heap.size < w6.heap.size := by omega
  clear hl n5 n2 HST B6 n6 Z5 S5 HW5 N5 N2
  have sz := Lib.hid (show (Tryz.prog.info? 151).map (·.size) = some (u32s l).toArray.size by rw [List.size_toArray, u32s_length, hl8]; kernel_rfl)
  have so := Lib.hid (show Z8.toArray.size = (u32s l).toArray.size by simp [Z8, u32s_length, hl8])
  have s1 := Lib.hid (show (u32s l).toArray.all (·.oneCell') = true from all_oneCell_toArray (u32s_one _))
  have NB := Lib.hid (fun w3 : World => (show (w3.alloc (.cells #[.int .u32 0, .int .u32 0, .int .u32 0, .int .u32 0, .int .u32 0, .int .u32 0, .int .u32 0, .int .u32 0] 151)).heap[w3.heap.size]? = some (.cells Z8.toArray 151 (0, 0)) from heap_alloc_new w3 _))
  go_wp2_with (refine wpList_store_all rfl 151 (.tmp 5) (.tmp 14) rfl w6.heap.size 151 Z8.toArray (u32s l).toArray rfl rfl (NB.out w6) sz.out so.out s1.out ?_)
  have st := setRow_heap _ w6.heap.size _ (u32s l).toArray 151 (0, 0) (NB.out w6)
  have sB : Below w.heap.size w ((w6.alloc (.cells #[.int .u32 0, .int .u32 0, .int .u32 0, .int .u32 0, .int .u32 0, .int .u32 0, .int .u32 0, .int .u32 0] 151)).setRow w6.heap.size (u32s l).toArray) := below_setRow (B6'.alloc (by omega) _) (by omega) _
  have sK : ∀ k, k < w6.heap.size → ((w6.alloc (.cells #[.int .u32 0, .int .u32 0, .int .u32 0, .int .u32 0, .int .u32 0, .int .u32 0, .int .u32 0, .int .u32 0] 151)).setRow w6.heap.size (u32s l).toArray).heap[k]? = w6.heap[k]? := fun k hk => by
    rw [setRow_other _ _ _ _ (by omega), Below.heap_alloc _ _ _ hk]
  generalize (w6.alloc (.cells #[.int .u32 0, .int .u32 0, .int .u32 0, .int .u32 0, .int .u32 0, .int .u32 0, .int .u32 0, .int .u32 0] 151)).setRow w6.heap.size (u32s l).toArray = w7 at *
  have s7 := Lib.hid ((sK _ g5).trans s6.out)
  have z7 := Lib.hid ((sK w.heap.size (by omega)).trans z6.out)
  have ST7 := Lib.hid st
  clear st sK s6 z6 NB sz so s1 B6' B5 B4 B3' B3 B2 n3 n4
  generalize w6.heap.size = gs at *
  generalize w4.heap.size = g at *
  go_loopw [15] (fun u wr => HtRel w g gs l u wr) (fun u _ => 8 - (intOf u).toNat)
  case atStart => exact ⟨0, rfl, Nat.zero_le _, by rw [s7.out]; rfl, ST7.out, z7.out, sB⟩
  case round =>
    clear s7 z7 ST7 sB
    obtain ⟨i, rfl, hi, r1, r2, r3, hBr⟩ := hrel
    by_cases h8 : i < 8
    · have c0 : wr.cell? ⟨gs, i, none⟩ = some (.int .u32 ((l.getD i 0 : Nat) : Int)) := by
        rw [cell_of_row wr _ i _ _ _ r2]
        simpa using u32s_get l i (by omega)
      have hx : l.getD i 0 < 4294967296 := hll _ (by rw [List.getD_eq_getElem?_getD, List.getElem?_eq_getElem (by omega)]; exact List.getElem_mem _)
      obtain ⟨x, hxe⟩ : ∃ x, x = l.getD i 0 := ⟨_, rfl⟩
      rw [← hxe] at hx c0
      have HX := Lib.hid hxe
      have R1 := Lib.hid r1
      have R2 := Lib.hid r2
      have R3 := Lib.hid r3
      have HL8 := Lib.hid hl8
      have p0 : (0 : Int) ≤ (i : Int) := by omega
      have j0 : (i : Int) < 8 := by omega
      have sl := fun w' => slice32 g (4 * i) (4 * (i : Int)) (by omega) (by omega) .i64 w'
      have hce := Lib.hid (four_bytes x hx)
      have hgw := Lib.hid (Array.getElem?_eq_some_iff.1 r1).1
      have hol : (ob1 x).length = 4 := rfl
      clear r1 r2 r3 hl8 hxe
      go_wp2_with (refine wpList_copy_own rfl (.tmp 23) (.tmp 35) 36 36 rfl 5 Tryz.underlying36 (by kernel_rfl) g (4 * i) (32 - 4 * i) (32 - 4 * i) ⟨wr.heap.size, 0, none⟩ 4 4 rfl rfl _ 23 ((Below.heap_alloc wr _ g hgw.out).trans R1.out) (bvs (ob1 x)) ?c1 ?c2 ?c3 ?c4 ?_)
      case c1 =>
        rw [bvs_length, hol]
        exact (Nat.min_eq_left (by omega)).symm
      case c2 =>
        intro j v hj
        rw [Addr.add_mid, Nat.zero_add, cell_of_row _ _ j _ _ _ (heap_alloc_new wr _), hce.out]
        simpa using hj
      case c3 =>
        rw [List.size_toArray, bvs_length, bvs_length, hol]
        have : (obTo l i).length = 32 := by
          unfold obTo
          rw [List.length_append, ob_length, List.length_take, HL8.out, List.length_replicate]
          omega
        omega
      case c4 =>
        intro v hv
        obtain ⟨_, _, rfl⟩ := List.mem_map.1 hv
        rfl
      have hlen : ((wr.alloc (.cells #[.int .u8 ((x : Int) / 16777216), .int .u8 ((x : Int) / 65536 % 256), .int .u8 ((x : Int) / 256 % 256), .int .u8 ((x : Int) % 256)] 5)).setRow g (List.take (4 * i) (bvs (obTo l i)) ++ (bvs (ob1 x) ++ List.drop (4 * i + (bvs (ob1 x)).length) (bvs (obTo l i)))).toArray).heap[g]? = some (.cells (bvs (obTo l (i + 1))).toArray 23 (0, 0)) := by
        rw [setRow_heap _ g _ _ _ _ ((Below.heap_alloc wr _ g hgw.out).trans R1.out), ← obTo_succ l HL8.out i h8, bvs_length, hol, HX.out]
        simp [bvs, List.map_take, List.map_drop]
      have hoth : ∀ k, k < wr.heap.size → k ≠ g → ∀ (o : Obj) (cs : Array Value), ((wr.alloc o).setRow g cs).heap[k]? = wr.heap[k]? := fun k hk hkg o cs => by
        rw [setRow_other _ _ _ _ hkg, Below.heap_alloc _ _ _ hk]
      exact ⟨⟨i + 1, by go_num, by omega, hlen, (hoth gs (Array.getElem?_eq_some_iff.1 R2.out).1 (by omega) _ _).trans R2.out, (hoth _ (Array.getElem?_eq_some_iff.1 R3.out).1 (by omega) _ _).trans R3.out, below_setRow (hBr.alloc (Nat.le_of_lt (Array.getElem?_eq_some_iff.1 R3.out).1) _) (by omega) _⟩, by simp [intOf]; omega⟩
    · obtain rfl : i = 8 := by omega
      have e8 : obTo l 8 = ob l := by
        unfold obTo
        rw [List.take_of_length_le (by omega)]
        simp
      rw [e8] at r1
      have hol : (bvs (ob l)).toArray.size = 32 := by rw [List.size_toArray, bvs_length, ob_length, hl8]
      have sz := Lib.hid (show (Tryz.prog.info? 23).map (·.size) = some (bvs (ob l)).toArray.size by rw [hol]; kernel_rfl)
      have so := Lib.hid (show Z32.toArray.size = (bvs (ob l)).toArray.size by rw [hol]; rfl)
      have s1 := Lib.hid (show (bvs (ob l)).toArray.all (·.oneCell') = true from all_oneCell_toArray (by
        intro v hv
        obtain ⟨_, _, rfl⟩ := List.mem_map.1 hv
        rfl))
      have R1 := Lib.hid r1
      have R3 := Lib.hid r3
      clear r1 r2 r3 e8 hol hl8
      go_wp2_with (first
        | (refine wpList_load_row rfl 23 (.tmp 4) rfl g rfl 23 _ (0, 0) _ R1.out Tryz.underlying23 rfl sz.out ?_)
        | (refine wpList_store_all rfl 23 (.tmp 2) (.tmp 38) rfl w.heap.size 23 Z32.toArray (bvs (ob l)).toArray rfl rfl R3.out sz.out so.out s1.out ?_))
      refine bodyPost_ret (results_cell_row rfl _ _ w.heap.size 23 (bvs (ob l)).toArray (0, 0) _ rfl (setRow_heap wr _ _ _ _ (0, 0) R3.out) Tryz.underlying23 rfl sz.out) rfl ?_
      refine ⟨?_, below_setRow hBr (Nat.le_refl _) _⟩
      unfold shaOf
      rw [← Ht.out, ← HL.out]
end Go.Proofs.YtnfobnnbeefeeaaGreatDoor.Sm
/- CRC-32 bit by bit: plain mathematics. -/
namespace Go.Proofs.YtnfobnnbeefeeaaGreatDoor.Sm
set_option linter.unusedVariables false

/-- One step of the register. -/
def crc1 (c : Nat) : Nat := c / 2 ^^^ 3988292384 * (c % 2)
theorem crc1_lt {c : Nat} (h : c < 4294967296) : crc1 c < 4294967296 := by
  unfold crc1
  refine Nat.xor_lt_two_pow (n := 32) (by omega) ?_
  have : c % 2 < 2 := Nat.mod_lt _ (by decide)
  omega
theorem xor_half (x y : Nat) : (x ^^^ y) / 2 = x / 2 ^^^ y / 2 := by
  have h := Nat.shiftRight_xor_distrib (a := x) (b := y) (i := 1)
  simpa [Nat.shiftRight_succ] using h
theorem xor_par (x y : Nat) : (x ^^^ y) % 2 = (x % 2 + y % 2) % 2 := by
  have h : (x ^^^ y) % 2 = x % 2 ^^^ y % 2 := by
    have := Nat.xor_mod_two_pow (a := x) (b := y) (n := 1)
    simpa using this
  rw [h]
  rcases Nat.mod_two_eq_zero_or_one x with hx | hx <;> rcases Nat.mod_two_eq_zero_or_one y with hy | hy <;> rw [hx, hy] <;> rfl
theorem xor_swap (a b c d : Nat) : a ^^^ b ^^^ (c ^^^ d) = a ^^^ c ^^^ (b ^^^ d) := by
  rw [Nat.xor_assoc, Nat.xor_assoc, ← Nat.xor_assoc b c d, Nat.xor_comm b c, Nat.xor_assoc c b d]
theorem crc1_xor (x y : Nat) : crc1 (x ^^^ y) = crc1 x ^^^ crc1 y := by
  unfold crc1
  rw [xor_half, xor_par, xor_swap]
  congr 1
  rcases Nat.mod_two_eq_zero_or_one x with hx | hx <;> rcases Nat.mod_two_eq_zero_or_one y with hy | hy <;> rw [hx, hy] <;> simp
theorem crc1_zero : crc1 0 = 0 := by decide
theorem crc1_even (x : Nat) : crc1 (2 * x) = x := by
  unfold crc1
  rw [Nat.mul_div_cancel_left x (by decide), Nat.mul_mod_right, Nat.mul_zero, Nat.xor_zero]
theorem crc1_ne {c : Nat} (h : c < 4294967296) (h0 : c ≠ 0) : crc1 c ≠ 0 := by
  unfold crc1
  intro e
  rcases Nat.mod_two_eq_zero_or_one c with hc | hc
  · rw [hc, Nat.mul_zero, Nat.xor_zero] at e; omega
  · rw [hc, Nat.mul_one] at e
    have h31 := congrArg (fun z => Nat.testBit z 31) e
    simp only [Nat.testBit_xor, Nat.zero_testBit] at h31
    have h1 : (c / 2).testBit 31 = false := Nat.testBit_lt_two_pow (by omega)
    rw [h1] at h31
    revert h31
    decide

def crcN : Nat → Nat → Nat
  | 0, c => c
  | k + 1, c => crcN k (crc1 c)
theorem crcN_lt : ∀ (k : Nat) {c : Nat}, c < 4294967296 → crcN k c < 4294967296
  | 0, _, h => h
  | k + 1, _, h => crcN_lt k (crc1_lt h)
theorem crcN_xor : ∀ k x y, crcN k (x ^^^ y) = crcN k x ^^^ crcN k y
  | 0, _, _ => rfl
  | k + 1, x, y => by rw [crcN, crc1_xor, crcN_xor k]; rfl
theorem crcN_ne : ∀ (k : Nat) {c : Nat}, c < 4294967296 → c ≠ 0 → crcN k c ≠ 0
  | 0, _, _, h => h
  | k + 1, _, h, h0 => crcN_ne k (crc1_lt h) (crc1_ne h h0)
theorem crcN_zero : ∀ k, crcN k 0 = 0
  | 0 => rfl
  | k + 1 => by rw [crcN, crc1_zero, crcN_zero k]
theorem crcN_succ : ∀ k c, crcN (k + 1) c = crc1 (crcN k c)
  | 0, _ => rfl
  | k + 1, c => by rw [crcN, crcN_succ k (crc1 c)]; rfl

/-- A bit more. -/
def stepBit (c : Nat) (b : Bool) : Nat := crc1 (c ^^^ b.toNat)
def run (c : Nat) (L : List Bool) : Nat := L.foldl stepBit c
def ofBits : List Bool → Nat
  | [] => 0
  | b :: L => b.toNat + 2 * ofBits L
theorem ofBits_lt : ∀ L : List Bool, ofBits L < 2 ^ L.length
  | [] => by simp [ofBits]
  | b :: L => by
    have := ofBits_lt L
    have hb : b.toNat ≤ 1 := Bool.toNat_le b
    rw [List.length_cons, Nat.pow_succ]
    unfold ofBits
    omega
theorem bit_split (b : Bool) (n : Nat) : b.toNat + 2 * n = b.toNat ^^^ 2 * n := by
  cases b
  · simp
  · rw [show (true.toNat : Nat) = 1 from rfl]
    apply Nat.eq_of_testBit_eq
    intro i
    rw [Nat.testBit_xor, Nat.add_comm]
    cases i with
    | zero => simp [Nat.testBit_zero]
    | succ i => simp [Nat.testBit_succ]; congr 1; omega
theorem run_N : ∀ (L : List Bool) (c : Nat), run c L = crcN L.length (c ^^^ ofBits L)
  | [], c => by simp [run, crcN, ofBits]
  | b :: L, c => by
    show run (stepBit c b) L = _
    rw [run_N L]
    show crcN L.length (crc1 (c ^^^ b.toNat) ^^^ ofBits L) = crcN L.length (crc1 (c ^^^ (b.toNat + 2 * ofBits L)))
    rw [bit_split, ← Nat.xor_assoc, crc1_xor (c ^^^ b.toNat), crc1_even]
theorem run_lt (L : List Bool) {c : Nat} (h : c < 4294967296) : run c L < 4294967296 := by
  induction L generalizing c with
  | nil => exact h
  | cons b L ih =>
    refine ih (crc1_lt ?_)
    have hb : b.toNat ≤ 1 := Bool.toNat_le b
    exact Nat.xor_lt_two_pow (n := 32) h (by omega)
theorem run_append (c : Nat) (L M : List Bool) : run c (L ++ M) = run (run c L) M := by simp [run]
theorem run_xor : ∀ (L M : List Bool) (c d : Nat), L.length = M.length → run (c ^^^ d) (List.zipWith Bool.xor L M) = run c L ^^^ run d M
  | [], [], _, _, _ => rfl
  | b :: L, b' :: M, c, d, h => by
    show run (stepBit (c ^^^ d) (b ^^ b')) (List.zipWith Bool.xor L M) = run (stepBit c b) L ^^^ run (stepBit d b') M
    rw [← run_xor L M _ _ (by simpa using h)]
    congr 1
    unfold stepBit
    rw [← crc1_xor, xor_swap]
    congr 2
    cases b <;> cases b' <;> rfl
  | [], _ :: _, _, _, h => by simp at h
  | _ :: _, [], _, _, h => by simp at h
theorem run_false (c : Nat) : ∀ n, run c (List.replicate n false) = crcN n c := by
  intro n
  rw [run_N]
  have : ∀ n, ofBits (List.replicate n false) = 0 := by
    intro n
    induction n with
    | zero => rfl
    | succ n ih => simp [List.replicate_succ, ofBits, ih]
  rw [this, List.length_replicate, Nat.xor_zero]
theorem ofBits_ne {L : List Bool} (h : true ∈ L) : ofBits L ≠ 0 := by
  induction L with
  | nil => cases h
  | cons b L ih =>
    unfold ofBits
    rcases List.mem_cons.1 h with rfl | h
    · simp
    · have := ih h; omega
/-- Up to 32 bits in a row that are not all 0 leave something. -/
theorem run_burst (a z : Nat) (W : List Bool) (hW : W.length ≤ 32) (h : true ∈ W) : run 0 (List.replicate a false ++ W ++ List.replicate z false) ≠ 0 := by
  rw [run_append, run_append, run_false, run_false, crcN_zero, run_N, Nat.zero_xor]
  have hlt : ofBits W < 4294967296 := Nat.lt_of_lt_of_le (ofBits_lt W) (Nat.pow_le_pow_right (n := 2) (by decide) hW)
  exact crcN_ne _ (crcN_lt _ hlt) (crcN_ne _ hlt (ofBits_ne h))

def byteBits (x : UInt8) : List Bool := (List.range 8).map fun k => x.toNat.testBit k
def bitsL (xs : List UInt8) : List Bool := xs.flatMap byteBits
def crcB (c : Nat) (x : UInt8) : Nat := crcN 8 (c ^^^ x.toNat)
def crcL (c : Nat) (xs : List UInt8) : Nat := xs.foldl crcB c
theorem byteBits_num (x : UInt8) : ofBits (byteBits x) = x.toNat := by
  have h := x.toNat_lt
  simp only [byteBits, List.range_succ, List.range_zero, List.nil_append, List.cons_append, List.map_cons, List.map_nil, ofBits]
  generalize x.toNat = n at h
  have t : ∀ k, (n.testBit k).toNat = n / 2 ^ k % 2 := fun k => Nat.toNat_testBit n k
  simp only [t]
  omega
theorem crcB_run (c : Nat) (x : UInt8) : crcB c x = run c (byteBits x) := by
  rw [run_N, byteBits_num]; simp [crcB, byteBits]
theorem crcL_run : ∀ (xs : List UInt8) (c : Nat), crcL c xs = run c (bitsL xs)
  | [], _ => rfl
  | x :: xs, c => by
    show crcL (crcB c x) xs = _
    rw [crcL_run xs, crcB_run]
    simp [bitsL, run_append]
theorem crcL_append (c : Nat) (xs ys : List UInt8) : crcL c (xs ++ ys) = crcL (crcL c xs) ys := by simp [crcL]
theorem crcB_lt {c : Nat} (h : c < 4294967296) (x : UInt8) : crcB c x < 4294967296 :=
  crcN_lt 8 (Nat.xor_lt_two_pow (n := 32) h (by have := x.toNat_lt; omega))
theorem crcL_lt : ∀ (xs : List UInt8) {c : Nat}, c < 4294967296 → crcL c xs < 4294967296
  | [], _, h => h
  | x :: xs, c, h => crcL_lt xs (crcB_lt h x)
def crcOf (xs : List UInt8) : Nat := 4294967295 - crcL 4294967295 xs
theorem byteBits_inj {x y : UInt8} (h : byteBits x = byteBits y) : x = y := by
  apply UInt8.toNat_inj.1
  rw [← byteBits_num, ← byteBits_num, h]
theorem bitsL_length (xs : List UInt8) : (bitsL xs).length = 8 * xs.length := by
  induction xs with
  | nil => rfl
  | cons x xs ih => simp [bitsL, byteBits] at ih ⊢; omega
theorem bitsL_inj : ∀ {xs ys : List UInt8}, bitsL xs = bitsL ys → xs = ys
  | [], [], _ => rfl
  | x :: xs, y :: ys, h => by
    have h' : byteBits x ++ bitsL xs = byteBits y ++ bitsL ys := h
    obtain ⟨h1, h2⟩ := List.append_inj h' (by simp [byteBits])
    rw [byteBits_inj h1, bitsL_inj h2]
  | [], y :: ys, h => by have := congrArg List.length h; simp [bitsL_length] at this
  | x :: xs, [], h => by have := congrArg List.length h; simp [bitsL_length] at this
theorem bitsL_get (xs : List UInt8) (m : Nat) (h : m < 8 * xs.length) : (bitsL xs)[m]? = some ((xs.getD (m / 8) 0).toNat.testBit (m % 8)) := by
  induction xs generalizing m with
  | nil => simp at h
  | cons x xs ih =>
    have e : bitsL (x :: xs) = byteBits x ++ bitsL xs := rfl
    rw [e]
    by_cases hm : m < 8
    · rw [List.getElem?_append_left (by simp [byteBits]; exact hm), show m / 8 = 0 by omega, show m % 8 = m by omega]
      simp [byteBits, hm]
    · rw [List.getElem?_append_right (by simp [byteBits]; omega)]
      have hl : (byteBits x).length = 8 := by simp [byteBits]
      rw [hl, ih (m - 8) (by simp only [List.length_cons] at h; omega)]
      have e1 : m / 8 = (m - 8) / 8 + 1 := by omega
      have e2 : m % 8 = (m - 8) % 8 := by omega
      rw [e1, e2, List.getD_cons_succ]
/-- Bytes of the same number that differ in up to 32 bits in a row alone, and have the same CRC-32, are the same. -/
theorem crc_sees {xs ys : List UInt8} (hl : xs.length = ys.length) (a : Nat) (hd : ∀ m, m < 8 * xs.length → (m < a ∨ a + 32 ≤ m) → (bitsL xs)[m]? = (bitsL ys)[m]?) (h : crcOf xs = crcOf ys) : xs = ys := by
  have h1 := crcL_lt xs (c := 4294967295) (by decide)
  have h2 := crcL_lt ys (c := 4294967295) (by decide)
  have he : crcL 4294967295 xs = crcL 4294967295 ys := by unfold crcOf at h; omega
  rw [crcL_run, crcL_run] at he
  have hbl : (bitsL xs).length = (bitsL ys).length := by rw [bitsL_length, bitsL_length, hl]
  have hx := run_xor (bitsL xs) (bitsL ys) 4294967295 4294967295 hbl
  rw [he, Nat.xor_self, Nat.xor_self] at hx
  obtain ⟨D, hD⟩ : ∃ D, D = List.zipWith Bool.xor (bitsL xs) (bitsL ys) := ⟨_, rfl⟩
  rw [← hD] at hx
  have hDl : D.length = 8 * xs.length := by rw [hD, List.length_zipWith, ← hbl, Nat.min_self, bitsL_length]
  have hDg : ∀ m, m < D.length → (m < a ∨ a + 32 ≤ m) → D[m]? = some false := by
    intro m hm ho
    have := hd m (by omega) ho
    have hmx : m < (bitsL xs).length := by rw [bitsL_length]; omega
    rw [hD, List.getElem?_zipWith, ← this, List.getElem?_eq_getElem hmx]
    simp
  by_cases hex : true ∈ (D.drop a).take 32
  · exfalso
    refine run_burst (D.take a).length (D.drop (a + 32)).length ((D.drop a).take 32) (by simp; omega) hex ?_
    rw [← hx]
    congr 1
    have e1 : List.replicate (D.take a).length false = D.take a := by
      refine (List.eq_replicate_iff.2 ⟨rfl, fun b hb => ?_⟩).symm
      obtain ⟨m, hm, rfl⟩ := List.mem_iff_getElem.1 hb
      have hm' : m < a ∧ m < D.length := by rw [List.length_take] at hm; omega
      have := hDg m hm'.2 (.inl hm'.1)
      rw [List.getElem?_eq_getElem hm'.2] at this
      rw [List.getElem_take]
      exact Option.some.inj this
    have e2 : List.replicate (D.drop (a + 32)).length false = D.drop (a + 32) := by
      refine (List.eq_replicate_iff.2 ⟨rfl, fun b hb => ?_⟩).symm
      obtain ⟨m, hm, rfl⟩ := List.mem_iff_getElem.1 hb
      have hm' : a + 32 + m < D.length := by simp at hm; omega
      have := hDg (a + 32 + m) hm' (.inr (by omega))
      rw [List.getElem?_eq_getElem hm'] at this
      rw [List.getElem_drop]
      exact Option.some.inj this
    rw [e1, e2, List.append_assoc, ← List.drop_drop, List.take_append_drop, List.take_append_drop]
  · apply bitsL_inj
    apply List.ext_getElem? 
    intro m
    by_cases hm : m < 8 * xs.length
    · by_cases ho : m < a ∨ a + 32 ≤ m
      · exact hd m hm ho
      · have hmx : m < (bitsL xs).length := by rw [bitsL_length]; exact hm
        have hmy : m < (bitsL ys).length := by omega
        have hmD : m < D.length := by omega
        have hin : D[m] ∈ (D.drop a).take 32 := by
          rw [List.mem_iff_getElem]
          refine ⟨m - a, by simp; omega, ?_⟩
          rw [List.getElem_take, List.getElem_drop]
          congr 1
          omega
        have hf : D[m] = false := by
          cases hb : D[m] with
          | false => rfl
          | true => rw [hb] at hin; exact absurd hin hex
        have hz : ((bitsL xs)[m] ^^ (bitsL ys)[m]) = false := by
          rw [← hf]
          simp only [hD, List.getElem_zipWith]
        rw [List.getElem?_eq_getElem hmx, List.getElem?_eq_getElem hmy]
        congr 1
        revert hz
        cases (bitsL xs)[m] <;> cases (bitsL ys)[m] <;> decide
    · rw [List.getElem?_eq_none (by rw [bitsL_length]; omega), List.getElem?_eq_none (by rw [bitsL_length]; omega)]
end Go.Proofs.YtnfobnnbeefeeaaGreatDoor.Sm
/- CRC-32 over parts: the walks of crcByte and CRC. -/
namespace Go.Proofs.YtnfobnnbeefeeaaGreatDoor.Sm
open Go Go.RowKit
set_option linter.unusedVariables false

theorem ret_u32 {a b : Nat} (h : a = b) : Ending.returned (.int .u32 ((a : Nat) : Int)) = .returned (.int .u32 ((b : Nat) : Int)) := by rw [h]
def CbRel (c : Nat) (v u : Value) : Prop := ∃ k : Nat, u = .int .i64 (k : Int) ∧ k ≤ 8 ∧ v = .int .u32 ((crcN k c : Nat) : Int)
theorem crc1_walk {n : Nat} (h : n < 4294967296) : bits BinOp.xor IntKind.u32 ((n : Int) / 2) (3988292384 * bits BinOp.and IntKind.u32 (n : Int) 1 % 4294967296) = ((crc1 n : Nat) : Int) := by
  have h1 : bits BinOp.and IntKind.u32 (n : Int) 1 = ((n % 2 : Nat) : Int) := by
    have := u32_and_nat n 1 h (by decide)
    rw [show ((1 : Nat) : Int) = 1 from rfl] at this
    rw [this, Nat.and_one_is_mod]
  have h2 : (n : Int) / 2 = ((n / 2 : Nat) : Int) := by simp
  have h4 : n % 2 < 2 := Nat.mod_lt _ (by decide)
  have h3 : 3988292384 * ((n % 2 : Nat) : Int) % 4294967296 = ((3988292384 * (n % 2) : Nat) : Int) := by omega
  rw [h1, h2, h3, u32_xor_nat _ _ (by omega) (by omega)]
  rfl
/-- A slice that reads as these bytes. -/
def Bs (w : World) (v : Value) (xs : List UInt8) : Prop :=
  ∃ ao c, v = .slice ao xs.length c ∧ xs.length ≤ c ∧ (ao = none → xs.length = 0) ∧ ∀ a, ao = some a → ∀ j u, (bvs xs)[j]? = some u → w.cell? (a.add j) = some u
/-- A slice of such slices. -/
def Pt (w : World) (v : Value) (L : List (Value × List UInt8)) : Prop :=
  ∃ ao c, v = .slice ao L.length c ∧ (ao = none → L.length = 0) ∧ ∀ a, ao = some a → ∀ j p, L[j]? = some p → w.cell? (a.add j) = some p.1 ∧ Bs w p.1 p.2
theorem cell_below {w w' : World} {B : Nat} (hB : Below B w w') (hs : w.heap.size ≤ B) {a : Addr} {u : Value} (h : w.cell? a = some u) : w'.cell? a = some u := by
  have := World.block_lt_of_cell? w a h
  rw [World.cell?_of_block (w := w) (hB.block a.block (by omega))]
  exact h
theorem Bs.below {w w' : World} {v : Value} {xs : List UInt8} {B : Nat} (h : Bs w v xs) (hB : Below B w w') (hs : w.heap.size ≤ B) : Bs w' v xs := by
  obtain ⟨ao, c, hv, hc, hno, h1⟩ := h
  exact ⟨ao, c, hv, hc, hno, fun a ha j u hu => cell_below hB hs (h1 a ha j u hu)⟩
theorem Pt.below {w w' : World} {v : Value} {L : List (Value × List UInt8)} {B : Nat} (h : Pt w v L) (hB : Below B w w') (hs : w.heap.size ≤ B) : Pt w' v L := by
  obtain ⟨ao, c, hv, hno, h1⟩ := h
  exact ⟨ao, c, hv, hno, fun a ha j p hj => ⟨cell_below hB hs (h1 a ha j p hj).1, (h1 a ha j p hj).2.below hB hs⟩⟩
theorem Bs.src {w w' : World} {v : Value} {xs : List UInt8} {b B : Nat} (h : Bs w v xs) (hB : Below B w w') (hs : w.heap.size ≤ B) (hb : w.heap.size ≤ b) : Src w' b v xs := by
  obtain ⟨ao, c, hv, hc, hno, h1⟩ := h
  refine ⟨ao, c, hv, hc, hno, fun a ha hp => ?_⟩
  have h0 := h1 a ha 0 (bv xs[0]) (by simp [bvs, hp])
  have hl := World.block_lt_of_cell? w _ h0
  rw [add_block] at hl
  have := hB.size
  exact ⟨by omega, by omega, fun j u hu => cell_below hB hs (h1 a ha j u hu)⟩
theorem Pt.parts {w w' : World} {v : Value} {L : List (Value × List UInt8)} {b B : Nat} (h : Pt w v L) (hB : Below B w w') (hs : w.heap.size ≤ B) (hb : w.heap.size ≤ b) : Parts w' b v L := by
  obtain ⟨ao, c, hv, hno, h1⟩ := h
  refine ⟨ao, c, hv, hno, fun a ha hp => ?_⟩
  have h0 := (h1 a ha 0 L[0] (by simp)).1
  have hl := World.block_lt_of_cell? w _ h0
  rw [add_block] at hl
  have := hB.size
  exact ⟨by omega, by omega, fun j p hj => ⟨cell_below hB hs (h1 a ha j p hj).1, (h1 a ha j p hj).2.src hB hs hb⟩⟩

def CoRel (L : List (Value × List UInt8)) (v u : Value) : Prop := ∃ k : Nat, u = .int .i64 (k : Int) ∧ k ≤ L.length ∧ v = .int .u32 ((crcL 4294967295 (bytesOf (L.take k)) : Nat) : Int)
def CiRel (c : Nat) (xs : List UInt8) (v u : Value) : Prop := ∃ k : Nat, u = .int .i64 (k : Int) ∧ k ≤ xs.length ∧ v = .int .u32 ((crcL c (xs.take k) : Nat) : Int)
theorem not_u32 {n : Nat} (h : n < 4294967296) : bits BinOp.xor IntKind.u32 IntKind.u32.max (n : Int) = ((4294967295 - n : Nat) : Int) := by
  show IntKind.u32.wrap ((BitVec.ofInt 32 IntKind.u32.max ^^^ BitVec.ofInt 32 (n : Int)).toNat : Int) = _
  have h1 : BitVec.ofInt 32 IntKind.u32.max = BitVec.allOnes 32 := by decide
  rw [h1, BitVec.allOnes_xor, BitVec.toNat_not, ofInt_u32 n h, IntKind.wrap_u32]
  omega
theorem bytesOf_take (L : List (Value × List UInt8)) (k : Nat) (h : k < L.length) : bytesOf (L.take (k + 1)) = bytesOf (L.take k) ++ (L[k]).2 := by
  rw [List.take_succ_eq_append_getElem h]
  unfold bytesOf
  rw [List.map_append, List.flatten_append]
  simp
end Go.Proofs.YtnfobnnbeefeeaaGreatDoor.Sm
