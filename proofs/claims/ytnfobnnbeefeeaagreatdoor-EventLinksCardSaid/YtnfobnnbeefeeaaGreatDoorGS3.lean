/- A whole block is taken in. -/
import Derived.Test.YtnfobnnbeefeeaaGreatDoorGS2
import Derived.Laws.CopyOwn
import Derived.DataElems
import Derived.Deep.OwnRows
import Derived.Laws.OwnMore
namespace Go.Proofs.YtnfobnnbeefeeaaGreatDoor.Sm
open Go Go.RowKit
set_option linter.unusedVariables false

/-- Of what was there only block b may have changed. -/
structure Hs (w w' : World) (b : Nat) : Prop where
  os : w'.os = w.os
  tape : w'.tape = w.tape
  output : w'.output = w.output
  size : w.heap.size ≤ w'.heap.size
  block : ∀ g, g < w.heap.size → g ≠ b → w'.heap[g]? = w.heap[g]?
theorem Hs.refl (w : World) (b : Nat) : Hs w w b := ⟨rfl, rfl, rfl, Nat.le_refl _, fun _ _ _ => rfl⟩
theorem Hs.trans {w w' w'' : World} {b : Nat} (h : Hs w w' b) (h' : Hs w' w'' b) : Hs w w'' b :=
  ⟨h'.os.trans h.os, h'.tape.trans h.tape, h'.output.trans h.output, Nat.le_trans h.size h'.size, fun g hg hb => (h'.block g (Nat.lt_of_lt_of_le hg h.size) hb).trans (h.block g hg hb)⟩
theorem Hs.of_below {w w' : World} {b : Nat} (h : Below w.heap.size w w') : Hs w w' b := ⟨h.os, h.tape, h.output, h.size, fun g hg _ => h.block g hg⟩
theorem Hs.then_below {w w' w'' : World} {b : Nat} (h : Hs w w' b) (h' : Below w'.heap.size w' w'') : Hs w w'' b := h.trans (Hs.of_below h')
theorem Hs.setCell {w w' : World} {b : Nat} (h : Hs w w' b) (o : Nat) (v : Value) : Hs w (w'.setCell ⟨b, o, none⟩ v) b :=
  ⟨h.os, h.tape, h.output, by simpa using h.size, fun g hg hb => (heap_setCell_other w' _ g v hb).trans (h.block g hg hb)⟩
theorem Hs.drewN {w w' : World} {b : Nat} (h : Hs w w' b) (n : Nat) : Hs w (w'.drewN n) b := ⟨h.os, h.tape, h.output, h.size, h.block⟩
theorem HashAt.setG {w : World} {b : Nat} {G : List Nat} {B : List UInt8} {n : Nat} (h : HashAt w b G B n) (i : Nat) (hi : i < 8) (x : Nat) : HashAt (w.setCell ⟨b, i, none⟩ (.int .u32 (x : Int))) b (G.set i x) B n := by
  refine ⟨by rw [List.length_set]; exact h.1, h.2.1, ?_⟩
  rw [heap_setCell_same w b i _ _ _ h.2.2]
  have : (hcells G B n).set i (.int .u32 (x : Int)) = hcells (G.set i x) B n := by
    unfold hcells
    rw [List.append_assoc, List.set_append_left _ _ (by rw [u32s_length, h.1]; exact hi), u32s_set, List.append_assoc]
  rw [← this]; simp
theorem HashAt.drewN {w : World} {b : Nat} {G : List Nat} {B : List UInt8} {n : Nat} (h : HashAt w b G B n) (m : Nat) : HashAt (w.drewN m) b G B n := h
theorem HashAt.frozen {w : World} {b : Nat} {G : List Nat} {B : List UInt8} {n : Nat} (h : HashAt w b G B n) (k : Nat) : w.frozen? ⟨b, k, none⟩ = false := frozen_of_row w b k _ _ h.2.2

def S8.of (l : List Nat) : S8 := ⟨l.getD 0 0, l.getD 1 0, l.getD 2 0, l.getD 3 0, l.getD 4 0, l.getD 5 0, l.getD 6 0, l.getD 7 0⟩
def S8.list (s : S8) : List Nat := [s.a, s.b, s.c, s.d, s.e, s.f, s.g, s.h]
theorem S8.vals_list (s : S8) : s.vals = (u32s s.list).toArray := rfl
theorem S8.list_of (l : List Nat) (h : l.length = 8) : (S8.of l).list = l := by
  match l, h with
  | [_, _, _, _, _, _, _, _], _ => rfl
/-- The eight numbers behind a block. -/
def mixG (G S K : List Nat) (B : List UInt8) : List Nat := zip8 G (rnds (exs B 48) K (S8.of (zip8 G S)) 64).list

def MxRel (w : World) (b : Nat) (G N : List Nat) (B : List UInt8) (n g : Nat) (u : Value) (wr : World) : Prop :=
  ∃ i : Nat, u = .int .i64 (i : Int) ∧ i ≤ 8 ∧ HashAt wr b (zipTo G N i) B n ∧ wr.heap[g]? = some (.cells (u32s N).toArray 151 (0, 0)) ∧ Hs w wr b
set_option maxRecDepth 100000 in
set_option maxHeartbeats 2000000 in
theorem mix_any {w : World} {b : Nat} {G : List Nat} {B : List UInt8} {n : Nat} (h : HashAt w b G B n) (S K : List Nat) (hS : S.length = 8) (hK : K.length = 64)
    (hsc : ∀ i, i < 8 → w.cell? ⟨1, i, none⟩ = some (.int .u32 ((S.getD i 0 : Nat) : Int))) (hkc : ∀ i, i < 64 → w.cell? ⟨4, i, none⟩ = some (.int .u32 ((K.getD i 0 : Nat) : Int))) (hbs : b ≠ 1) (hbk : b ≠ 4) :
    Calls Tryz.prog 170 #[.pointer (some ⟨b, 0, none⟩)] w fun e w' => e = .returned (.tuple #[]) ∧ HashAt w' b (mixG G S K B) B n ∧ Hs w w' b := by
  have hb := h.lt
  have hgs : 1 < w.heap.size := World.block_lt_of_cell? w _ (hsc 0 (by decide))
  have hgk : 4 < w.heap.size := World.block_lt_of_cell? w _ (hkc 0 (by decide))
  have hs8 : (zip8 G S).length = 8 := zip8_length G S
  obtain ⟨s, hs⟩ : ∃ s, s = S8.of (zip8 G S) := ⟨_, rfl⟩
  have hsv : Value.agg (u32s (zip8 G S)).toArray = .agg s.vals := by rw [hs, S8.vals_list, S8.list_of _ hs8]
  have hok : s.ok := by
    have : ∀ k, (zip8 G S).getD k 0 < 4294967296 := getD_lt (fun x hx => by
      simp only [zip8, List.mem_map] at hx
      obtain ⟨_, _, rfl⟩ := hx
      exact Nat.mod_lt _ (by decide))
    rw [hs]
    exact ⟨this 0, this 1, this 2, this 3, this 4, this 5, this 6, this 7⟩
  have hX : (exs B 48).length = 64 := by rw [exs_length]
  have c1 : Calls Tryz.prog 153 #[.pointer (some ⟨b, 0, none⟩)] w fun e w' => e = .returned (.agg s.vals) ∧ Below w.heap.size w w' := (state_any h S hS hsc).mono fun _ _ h' => ⟨h'.1.trans (by rw [hsv]), h'.2⟩
  have c2 : ∀ w', Below w.heap.size w w' → Calls Tryz.prog 186 #[.pointer (some ⟨b, 0, none⟩)] w' fun e w'' => e = .returned (.agg (u32s (exs B 48)).toArray) ∧ Below w.heap.size w w'' := fun w' hB => (words_any (h.below hB hb)).mono fun _ _ h' => ⟨h'.1, hB.trans (h'.2.mono hB.size)⟩
  have c3 : ∀ w', Below w.heap.size w w' → Calls Tryz.prog 185 #[.agg s.vals, .agg (u32s (exs B 48)).toArray] w' fun e w'' => e = .returned (.agg (u32s (rnds (exs B 48) K s 64).list).toArray) ∧ Below w.heap.size w w'' := fun w' hB =>
    (rounds_any w' s hok (exs B 48) K hX hK (fun i hi => (hB.cell (p := ⟨4, i, none⟩) hgk).trans (hkc i hi))).mono fun _ _ h' => ⟨h'.1, hB.trans (h'.2.mono hB.size)⟩
  have hm : mixG G S K B = zip8 G (rnds (exs B 48) K s 64).list := by rw [hs]; rfl
  rw [hm]
  have hN : (rnds (exs B 48) K s 64).list.length = 8 := rfl
  generalize (rnds (exs B 48) K s 64).list = N at *
  generalize exs B 48 = X at *
  generalize s.vals = sv at *
  have C1 := Lib.hid c1
  have C2 := Lib.hid c2
  have C3 := Lib.hid c3
  clear c1 c2 c3 hm hX hok hsv hs hs8 hsc hkc hgs hgk hbs hbk hS hK
  clear s
  have hG := h.1
  have sz := Lib.hid (show (Tryz.prog.info? 151).map (·.size) = some (u32s N).toArray.size by rw [List.size_toArray, u32s_length, hN]; kernel_rfl)
  have so := Lib.hid (show Z8.toArray.size = (u32s N).toArray.size by simp [Z8, u32s_length, hN])
  have s1 := Lib.hid (show (u32s N).toArray.all (·.oneCell') = true from all_oneCell_toArray (u32s_one _))
  have NB := Lib.hid (fun w3 : World => (show (w3.alloc (.cells #[.int .u32 0, .int .u32 0, .int .u32 0, .int .u32 0, .int .u32 0, .int .u32 0, .int .u32 0, .int .u32 0] 151)).heap[w3.heap.size]? = some (.cells Z8.toArray 151 (0, 0)) from heap_alloc_new w3 _))
  go_enter Tryz.func170, Tryz.ntmps170
  go_wp2_with (first
    | (go_at_call 153; refine C1.out.mono ?_; rintro e w1 ⟨rfl, hB1⟩)
    | (go_at_call 186; refine (C2.out _ hB1).mono ?_; rintro e w2 ⟨rfl, hB2⟩)
    | (go_at_call 185; refine (C3.out _ hB2).mono ?_; rintro e w3 ⟨rfl, hB3⟩)
    | (refine wpList_store_all rfl 151 (.tmp 2) (.tmp 8) rfl w3.heap.size 151 Z8.toArray (u32s N).toArray rfl rfl (NB.out w3) sz.out so.out s1.out ?_))
  have st := setRow_heap _ w3.heap.size _ (u32s N).toArray 151 (0, 0) (NB.out w3)
  have sB : Below w.heap.size w ((w3.alloc (.cells #[.int .u32 0, .int .u32 0, .int .u32 0, .int .u32 0, .int .u32 0, .int .u32 0, .int .u32 0, .int .u32 0] 151)).setRow w3.heap.size (u32s N).toArray) := below_setRow (hB3.alloc hB3.size _) hB3.size _
  have hbg : b < w3.heap.size := Nat.lt_of_lt_of_le hb hB3.size
  generalize (w3.alloc (.cells #[.int .u32 0, .int .u32 0, .int .u32 0, .int .u32 0, .int .u32 0, .int .u32 0, .int .u32 0, .int .u32 0] 151)).setRow w3.heap.size (u32s N).toArray = w4 at *
  generalize w3.heap.size = g at *
  have ST := Lib.hid st
  clear st C1 C2 C3 NB sz so s1 hB1 hB2 hB3
  go_loopw [9] (fun u wr => MxRel w b G N B n g u wr) (fun u _ => 8 - (intOf u).toNat)
  case atStart => exact ⟨0, rfl, Nat.zero_le _, by have := h.below sB hb; simpa [zipTo] using this, ST.out, Hs.of_below sB⟩
  case round =>
    clear ST sB
    obtain ⟨i, rfl, hi, hH, r1, hR⟩ := hrel
    by_cases h8 : i < 8
    · have c0 : wr.cell? ⟨b, i, none⟩ = some (.int .u32 ((G.getD i 0 : Nat) : Int)) := by rw [hH.gained i h8, zipTo_get G N hG h8]
      have k0 : wr.cell? ⟨g, i, none⟩ = some (.int .u32 ((N.getD i 0 : Nat) : Int)) := by
        rw [cell_of_row wr _ i _ _ _ r1]
        simpa using u32s_get N i (by omega)
      have gf := hH.frozen i
      have hn := zipTo_set G N hG h8
      have HN := Lib.hid hn
      have R1 := Lib.hid r1
      have HH := Lib.hid hH
      clear hn r1 hH
      generalize G.getD i 0 = x at *
      generalize N.getD i 0 = y at *
      have p0 : (0 : Int) ≤ (i : Int) := by omega
      have j0 : (i : Int) < 8 := by omega
      go_wp2_with fail
      (refine wp_region_quiet_tail 12 (by kernel_rfl) (by kernel_rfl) ?_; simp only [List.take_succ_cons, List.take_zero, List.drop_succ_cons, List.drop_zero]; (repeat (go_big_quiet_step (fail))); refine wpQuiet_nil ?_; intro _ hw'; obtain ⟨nq, hw''⟩ := hw'; subst hw'')
      go_wp2
      refine ⟨⟨i + 1, by go_num, by omega, ?_, ?_, ?_⟩, by simp [intOf]; omega⟩
      · rw [← HN.out]
        exact (HH.out.drewN nq).setG i h8 _
      · rw [heap_setCell_other _ _ _ _ (by simp; omega)]; exact R1.out
      · exact (hR.drewN nq).setCell _ _
    · obtain rfl : i = 8 := by omega
      have e8 : zipTo G N 8 = zip8 G N := by simp [zipTo, hG, zip8_length, List.take_of_length_le]
      rw [e8] at hH
      clear e8
      go_wp2_with fail
      go_end0
      exact ⟨rfl, hH, hR⟩
end Go.Proofs.YtnfobnnbeefeeaaGreatDoor.Sm
/- A part is added. -/
namespace Go.Proofs.YtnfobnnbeefeeaaGreatDoor.Sm
open Go Go.RowKit
set_option linter.unusedVariables false

/-- A hash: the eight numbers, the block, and how many bytes there were. -/
structure HS where
  G : List Nat
  B : List UInt8
  n : Nat
/-- One byte more. -/
def feed1 (S K : List Nat) (h : HS) (x : UInt8) : HS :=
  if (h.n + 1) % 64 = 0 then ⟨mixG h.G S K (h.B.set (h.n % 64) x), h.B.set (h.n % 64) x, h.n + 1⟩ else ⟨h.G, h.B.set (h.n % 64) x, h.n + 1⟩
def feed (S K : List Nat) (h : HS) (xs : List UInt8) : HS := xs.foldl (feed1 S K) h
/-- Some bytes are laid over others from a place on. -/
def lay (B : List UInt8) (k : Nat) (xs : List UInt8) : List UInt8 := B.take k ++ xs ++ B.drop (k + xs.length)
theorem lay_length (B : List UInt8) (k : Nat) (xs : List UInt8) (h : k + xs.length ≤ B.length) : (lay B k xs).length = B.length := by simp [lay]; omega
theorem lay_cons (B : List UInt8) (k : Nat) (x : UInt8) (xs : List UInt8) (h : k + xs.length < B.length) : lay B k (x :: xs) = lay (B.set k x) (k + 1) xs := by
  unfold lay
  have hk : k < B.length := by omega
  rw [List.take_set, List.drop_set, List.length_cons]
  rw [if_pos (by omega)]
  rw [List.take_succ_eq_append_getElem hk, List.set_append_right _ _ (by simp; omega)]
  simp [Nat.min_eq_left (Nat.le_of_lt hk)]
  omega
/-- Within a block: what is copied, and behind the block's last byte it is mixed. -/
theorem feed_block (S K : List Nat) : ∀ (xs : List UInt8) (h : HS), h.B.length = 64 → 0 < xs.length → h.n % 64 + xs.length ≤ 64 →
    feed S K h xs = if (h.n + xs.length) % 64 = 0 then ⟨mixG h.G S K (lay h.B (h.n % 64) xs), lay h.B (h.n % 64) xs, h.n + xs.length⟩ else ⟨h.G, lay h.B (h.n % 64) xs, h.n + xs.length⟩
  | [], _, _, h0, _ => by simp at h0
  | [x], h, hB, _, hl => by
    have e : lay h.B (h.n % 64) [x] = h.B.set (h.n % 64) x := by
      simp at hl
      rw [lay_cons _ _ _ _ (by simp; omega)]
      simp [lay]
    simp only [feed, List.foldl_cons, List.foldl_nil, feed1, e, List.length_cons, List.length_nil, Nat.zero_add]
  | x :: y :: xs, h, hB, _, hl => by
    simp only [List.length_cons] at hl
    have h1 : ¬ (h.n + 1) % 64 = 0 := by omega
    have hm : (h.n + 1) % 64 = h.n % 64 + 1 := by omega
    have ih := feed_block S K (y :: xs) ⟨h.G, h.B.set (h.n % 64) x, h.n + 1⟩ (by simpa using hB) (by simp) (by simp only [List.length_cons]; omega)
    have e := lay_cons h.B (h.n % 64) x (y :: xs) (by simp only [List.length_cons]; omega)
    simp only [feed, List.foldl_cons] at ih ⊢
    simp only [feed1, h1, if_false]
    rw [← hm] at e
    simp only [feed1] at ih
    rw [ih, ← e]
    simp only [List.length_cons, show h.n + 1 + (xs.length + 1) = h.n + (xs.length + 1 + 1) by omega]

/-- A slice with the bytes xs that lies apart from block b. -/
def Src (w : World) (b : Nat) (v : Value) (xs : List UInt8) : Prop :=
  ∃ ao c, v = .slice ao xs.length c ∧ xs.length ≤ c ∧ (ao = none → xs.length = 0) ∧ ∀ a, ao = some a → 0 < xs.length → a.block ≠ b ∧ a.block < w.heap.size ∧ ∀ j u, (bvs xs)[j]? = some u → w.cell? (a.add j) = some u
theorem Src.hs {w w' : World} {b : Nat} {v : Value} {xs : List UInt8} (h : Src w b v xs) (hh : Hs w w' b) : Src w' b v xs := by
  obtain ⟨ao, c, hv, hc, hno, hs⟩ := h
  refine ⟨ao, c, hv, hc, hno, fun a ha hp => ?_⟩
  obtain ⟨h1, h2, h3⟩ := hs a ha hp
  refine ⟨h1, Nat.lt_of_lt_of_le h2 hh.size, fun j u hu => ?_⟩
  have hblk : (a.add j).block = a.block := by unfold Addr.add; split <;> rfl
  rw [World.cell?_of_block (w := w) (hh.block (a.add j).block (by rw [hblk]; exact h2) (by rw [hblk]; exact h1))]
  exact h3 j u hu
theorem HashAt.laid {w : World} {b : Nat} {G : List Nat} {B : List UInt8} {n : Nat} (h : HashAt w b G B n) (k : Nat) (ys : List UInt8) (hk : k + ys.length ≤ 64) (cells : Array Value)
    (hc : cells = ((hcells G B n).toArray.toList.take (8 + k) ++ (bvs ys ++ (hcells G B n).toArray.toList.drop (8 + k + (bvs ys).length))).toArray) : HashAt (w.setRow b cells) b G (lay B k ys) n := by
  obtain ⟨h1, h2, h3⟩ := h
  refine ⟨h1, by rw [lay_length _ _ _ (by omega)]; exact h2, ?_⟩
  rw [setRow_heap w b _ _ _ _ h3, hc]
  congr 3
  have e1 : (hcells G B n).take (8 + k) = u32s G ++ bvs (B.take k) := by
    unfold hcells
    rw [List.append_assoc, List.take_append, u32s_length, h1, List.take_of_length_le (by rw [u32s_length]; omega), show 8 + k - 8 = k by omega, List.take_append_of_le_length (by rw [bvs_length]; omega)]
    simp [bvs, List.map_take]
  have e2 : (hcells G B n).drop (8 + k + (bvs ys).length) = bvs (B.drop (k + ys.length)) ++ [.int .u64 (n : Int)] := by
    unfold hcells
    rw [bvs_length, List.append_assoc, List.drop_append, u32s_length, h1, List.drop_of_length_le (by rw [u32s_length]; omega), List.nil_append, show 8 + k + ys.length - 8 = k + ys.length by omega, List.drop_append_of_le_length (by rw [bvs_length]; omega)]
    simp [bvs, List.map_drop]
  rw [List.toList_toArray, e1, e2]
  unfold hcells lay
  simp [bvs]
theorem HashAt.setN {w : World} {b : Nat} {G : List Nat} {B : List UInt8} {n : Nat} (h : HashAt w b G B n) (m : Nat) (x : Int) (hx : x = (m : Int)) : HashAt (w.setCell ⟨b, 72, none⟩ (.int .u64 x)) b G B m := by
  subst hx
  refine ⟨h.1, h.2.1, ?_⟩
  rw [heap_setCell_same w b 72 _ _ _ h.2.2]
  have : (hcells G B n).set 72 (.int .u64 (m : Int)) = hcells G B m := by
    unfold hcells
    rw [List.set_append_right _ _ (by simp [u32s_length, bvs_length, h.1, h.2.1])]
    simp [u32s_length, bvs_length, h.1, h.2.1]
  rw [← this]; simp
end Go.Proofs.YtnfobnnbeefeeaaGreatDoor.Sm
/- A part is added: the walk. -/
namespace Go.Proofs.YtnfobnnbeefeeaaGreatDoor.Sm
open Go Go.RowKit
set_option linter.unusedVariables false

def ApRel (w : World) (b : Nat) (h0 : HS) (S K : List Nat) (xs : List UInt8) (u : Value) (wr : World) : Prop :=
  ∃ k, k ≤ xs.length ∧ Src wr b u (xs.drop k) ∧ HashAt wr b (feed S K h0 (xs.take k)).G (feed S K h0 (xs.take k)).B (feed S K h0 (xs.take k)).n ∧ (feed S K h0 (xs.take k)).n = h0.n + k ∧ Hs w wr b
def lenOf : Value → Nat
  | .slice _ n _ => n
  | _ => 0
theorem Hs.setRow {w w' : World} {b : Nat} (h : Hs w w' b) (cs : Array Value) : Hs w (w'.setRow b cs) b :=
  ⟨h.os, h.tape, h.output, by simpa using h.size, fun g hg hb => (setRow_other w' b g cs hb).trans (h.block g hg hb)⟩

theorem add_block (a : Addr) (m : Nat) : (a.add m).block = a.block := by unfold Addr.add; split <;> rfl
theorem Src.advance {w : World} {b : Nat} {ad : Addr} {c m : Nat} {Y : List UInt8} (h : Src w b (.slice (some ad) Y.length c) Y) (hm : m ≤ Y.length) :
    Src w b (.slice (if c = m then some ad else some (ad.add m)) (Y.length - m) (c - m)) (Y.drop m) := by
  obtain ⟨ao, c', hv, hc, hno, hs⟩ := h
  obtain ⟨rfl, _, rfl⟩ : some ad = ao ∧ Y.length = Y.length ∧ c = c' := by simpa using hv
  have hl : (Y.drop m).length = Y.length - m := by simp
  by_cases hcm : c = m
  · rw [if_pos hcm]
    refine ⟨some ad, c - m, by rw [hl], by rw [hl]; omega, (by intro e; cases e), fun a ha hp => ?_⟩
    cases ha
    obtain ⟨h1, h2, h3⟩ := hs ad rfl (by omega)
    refine ⟨h1, h2, fun j u hu => ?_⟩
    have : (bvs (Y.drop m)).length = 0 := by rw [bvs_length, hl]; omega
    rw [List.getElem?_eq_none (by omega)] at hu
    cases hu
  · rw [if_neg hcm]
    refine ⟨some (ad.add m), c - m, by rw [hl], by rw [hl]; omega, (by intro e; cases e), fun a ha hp => ?_⟩
    cases ha
    obtain ⟨h1, h2, h3⟩ := hs ad rfl (by omega)
    refine ⟨by rw [add_block]; exact h1, by rw [add_block]; exact h2, fun j u hu => ?_⟩
    rw [Addr.add_add]
    refine h3 (m + j) u ?_
    simpa [bvs, List.map_drop] using hu
theorem ap_next {w wr wf : World} {b : Nat} {h0 : HS} {S K : List Nat} {xs Y : List UInt8} {k n1 c m : Nat} {G1 : List Nat} {B1 : List UInt8} {ad : Addr} {v : Value} (hY : Y = xs.drop k) (hYl : Y.length = xs.length - k) (hk : k ≤ xs.length)
    (hE : ⟨G1, B1, n1⟩ = feed S K h0 (xs.take k)) (hN : n1 = h0.n + k) (hB : B1.length = 64) (m0 : 0 < m) (m1 : m ≤ Y.length) (m2 : n1 % 64 + m ≤ 64) (hSrc : Src wr b (.slice (some ad) Y.length c) Y) (hR : Hs w wf b) (hR' : Hs wr wf b)
    (hH : HashAt wf b (if (n1 + m) % 64 = 0 then mixG G1 S K (lay B1 (n1 % 64) (Y.take m)) else G1) (lay B1 (n1 % 64) (Y.take m)) (n1 + m)) (hv : v = .slice (if c = m then some ad else some (ad.add m)) (Y.length - m) (c - m)) : ApRel w b h0 S K xs v wf := by
  have hl : (Y.take m).length = m := by rw [List.length_take]; omega
  have hf : feed S K h0 (xs.take (k + m)) = ⟨if (n1 + m) % 64 = 0 then mixG G1 S K (lay B1 (n1 % 64) (Y.take m)) else G1, lay B1 (n1 % 64) (Y.take m), n1 + m⟩ := by
    rw [List.take_add, ← hY]
    unfold feed
    rw [List.foldl_append]
    show feed S K (feed S K h0 (xs.take k)) (Y.take m) = _
    rw [← hE, feed_block S K (Y.take m) ⟨G1, B1, n1⟩ hB (by omega) (by rw [hl]; exact m2), hl]
    split <;> rfl
  refine ⟨k + m, by omega, ?_, ?_, ?_, hR⟩
  · have := (hSrc.hs hR').advance m1
    rw [hY, List.drop_drop, ← hY] at this
    rw [hv]
    exact this
  · rw [hf]; exact hH
  · rw [hf]; show n1 + m = _; omega

set_option maxRecDepth 100000 in
set_option maxHeartbeats 2000000 in
theorem addPart_any {w : World} {b : Nat} {h0 : HS} (h : HashAt w b h0.G h0.B h0.n) (S K : List Nat) (hS : S.length = 8) (hK : K.length = 64)
    (hsc : ∀ i, i < 8 → w.cell? ⟨1, i, none⟩ = some (.int .u32 ((S.getD i 0 : Nat) : Int))) (hkc : ∀ i, i < 64 → w.cell? ⟨4, i, none⟩ = some (.int .u32 ((K.getD i 0 : Nat) : Int))) (hbs : b ≠ 1) (hbk : b ≠ 4)
    (v : Value) (xs : List UInt8) (hv : Src w b v xs) (hn : h0.n + xs.length < 9223372036854775808) :
    Calls Tryz.prog 151 #[.pointer (some ⟨b, 0, none⟩), v] w fun e w' => e = .returned (.tuple #[]) ∧ HashAt w' b (feed S K h0 xs).G (feed S K h0 xs).B (feed S K h0 xs).n ∧ Hs w w' b := by
  have hb := h.lt
  have hgs : 1 < w.heap.size := World.block_lt_of_cell? w _ (hsc 0 (by decide))
  have hgk : 4 < w.heap.size := World.block_lt_of_cell? w _ (hkc 0 (by decide))
  have mx : ∀ (w' : World) (G : List Nat) (B : List UInt8) (n : Nat), Hs w w' b → HashAt w' b G B n → Calls Tryz.prog 170 #[.pointer (some ⟨b, 0, none⟩)] w' fun e w'' => e = .returned (.tuple #[]) ∧ HashAt w'' b (mixG G S K B) B n ∧ Hs w' w'' b := fun w' G B n hR hH =>
    (mix_any hH S K hS hK (fun i hi => (World.cell?_of_block (a := ⟨1, i, none⟩) (hR.block _ hgs (Ne.symm hbs))).trans (hsc i hi)) (fun i hi => (World.cell?_of_block (a := ⟨4, i, none⟩) (hR.block _ hgk (Ne.symm hbk))).trans (hkc i hi)) hbs hbk).mono
      fun _ _ h' => h'
  have MX := Lib.hid mx
  clear mx hsc hkc hbs hbk hgs hgk hS hK
  obtain ⟨ao0, c0, hv0, hr0⟩ := id hv
  subst hv0
  go_enter Tryz.func151, Tryz.ntmps151
  go_wp2_with fail
  go_loopw [1] (fun u wr => ApRel w b h0 S K xs u wr) (fun u _ => lenOf u)
  case atStart => exact ⟨0, Nat.zero_le _, by simpa using hv, by simpa [feed] using h, by simp [feed], Hs.refl _ _⟩
  case round =>
    obtain ⟨k, hk, hSrc, hH, hN, hR⟩ := hrel
    obtain ⟨Y, hY⟩ : ∃ Y, Y = xs.drop k := ⟨_, rfl⟩
    have hYl : Y.length = xs.length - k := by rw [hY]; simp
    obtain ⟨h1, hh1⟩ : ∃ h1, h1 = feed S K h0 (xs.take k) := ⟨_, rfl⟩
    rw [← hY] at hSrc
    rw [← hh1] at hH hN
    have hS0 := hSrc
    obtain ⟨ao, c, rfl, hc, hno, hs⟩ := hSrc
    have SR := Lib.hid hS0
    clear hS0
    have EY := Lib.hid hY
    have LY := Lib.hid hYl
    have E1 := Lib.hid hh1
    clear hY hYl hh1 hr0 hv
    by_cases hz : Y.length = 0
    · have hz' : ¬ (0 : Int) < (Y.length : Int) := by omega
      have hz2 : ¬ 0 < Y.length := by omega
      have hkx : k = xs.length := by have := LY.out; omega
      rw [hkx, List.take_length] at E1
      rw [E1.out] at hH
      go_wp2_with fail
      go_end0
      exact ⟨rfl, hH, hR⟩
    · have hz' : (0 : Int) < (Y.length : Int) := by omega
      have hz2 : 0 < Y.length := by omega
      obtain ⟨ad, rfl⟩ : ∃ ad, ao = some ad := by
        cases ao with
        | none => exact absurd (hno rfl) hz
        | some ad => exact ⟨ad, rfl⟩
      obtain ⟨ha1, ha2, ha3⟩ := hs ad rfl hz2
      obtain ⟨G1, B1, n1⟩ := h1
      dsimp only at hH hN
      have cnt := hH.count
      obtain ⟨q, hq⟩ : ∃ q, q = n1 % 64 := ⟨_, rfl⟩
      have hq64 : q < 64 := by omega
      have hqI : (n1 : Int) % 64 = (q : Int) := by omega
      have sl := fun w' => slice64 b 8 q (q : Int) rfl hq64 .u64 w'
      have HH := Lib.hid hH
      have HN := Lib.hid hN
      have HQ := Lib.hid hq
      have AS := Lib.hid (And.intro ha1 (And.intro ha2 ha3))
      clear hH hN hno hs ha1 ha2 ha3 hq
      go_wp2_with fail
      (refine wp_region_quiet_tail 10 (by kernel_rfl) (by kernel_rfl) ?_; simp only [List.take_succ_cons, List.take_zero, List.drop_succ_cons, List.drop_zero]; (repeat (go_big_quiet_step (fail))); refine wpQuiet_nil ?_; intro _ hw'; obtain ⟨nq, hw''⟩ := hw'; subst hw'')
      obtain ⟨m, hm⟩ : ∃ m, m = Nat.min Y.length (64 - q) := ⟨_, rfl⟩
      have hm1 : m ≤ Y.length := by rw [hm]; exact Nat.min_le_left _ _
      have hm2 : m ≤ 64 - q := by rw [hm]; exact Nat.min_le_right _ _
      have mm : 0 < m := by rw [hm]; exact Nat.lt_min.2 ⟨hz2, by omega⟩
      have hml : (bvs (Y.take m)).length = m := by rw [bvs_length, List.length_take]; omega
      refine wpList_copy_own rfl (.tmp 16) (.tmp 17) 36 36 rfl 5 Tryz.underlying36 (by kernel_rfl) b (8 + q) (64 - q) (64 - q) ad Y.length c (by simp [Act.eval]) (by simp [Act.eval]) _ 154 HH.out.2.2 (bvs (Y.take m)) (by rw [hml, hm]) ?src ?fit ?one ?_
      case src =>
        intro j v hj
        have hj' : (bvs Y)[j]? = some v := by
          simp only [bvs, List.map_take, List.getElem?_take] at hj ⊢
          split at hj
          · exact hj
          · cases hj
        simpa using AS.out.2.2 j v hj'
      case fit =>
        rw [hml]
        have := HH.out.1
        have := HH.out.2.1
        simp [hcells, u32s_length, bvs_length]
        omega
      case one =>
        intro v hv
        obtain ⟨_, _, rfl⟩ := List.mem_map.1 hv
        rfl
      have H5 := (HH.out.drewN nq).laid q (Y.take m) (by rw [← bvs_length, hml]; omega) _ rfl
      have R5 := (hR.drewN nq).setRow ((hcells G1 B1 n1).toArray.toList.take (8 + q) ++ (bvs (Y.take m) ++ (hcells G1 B1 n1).toArray.toList.drop (8 + q + (bvs (Y.take m)).length))).toArray
      have R5' := ((Hs.refl wr b).drewN nq).setRow ((hcells G1 B1 n1).toArray.toList.take (8 + q) ++ (bvs (Y.take m) ++ (hcells G1 B1 n1).toArray.toList.drop (8 + q + (bvs (Y.take m)).length))).toArray
      generalize (wr.drewN nq).setRow b ((hcells G1 B1 n1).toArray.toList.take (8 + q) ++ (bvs (Y.take m) ++ (hcells G1 B1 n1).toArray.toList.drop (8 + q + (bvs (Y.take m)).length))).toArray = w5 at *
      rw [show goInt (bvs (Y.take m)).length = .int .i64 (m : Int) by rw [hml]; rfl]
      have cnt5 := H5.count
      have fr5 := H5.frozen 72
      have HH5 := Lib.hid H5
      have HM := Lib.hid hm
      have p0 : (0 : Int) ≤ (m : Int) := by omega
      have p1 : (m : Int) ≤ (Y.length : Int) := by omega
      have p2 : (m : Int) ≤ (c : Int) := by omega
      have p3 : m ≤ c := by omega
      have n63 : n1 + m < 9223372036854775808 := by have := HN.out; have := LY.out; omega
      have wn : IntKind.u64.wrap ((n1 : Int) + (m : Int)) = ((n1 + m : Nat) : Int) := by rw [IntKind.wrap_u64]; omega
      have fin : ∀ (wf : World) (v : Value), Hs w wf b → Hs wr wf b → HashAt wf b (if (n1 + m) % 64 = 0 then mixG G1 S K (lay B1 (n1 % 64) (Y.take m)) else G1) (lay B1 (n1 % 64) (Y.take m)) (n1 + m) → v = .slice (if c = m then some ad else some (ad.add m)) (Y.length - m) (c - m) → ApRel w b h0 S K xs v wf :=
        fun wf v r r' hh hv => ap_next EY.out LY.out hk E1.out HN.out HH.out.2.1 mm hm1 (by have := HQ.out; omega) SR.out r r' hh hv
      have FIN := Lib.hid fin
      have R := Lib.hid R5
      have R' := Lib.hid R5'
      rw [HQ.out] at HH5
      clear H5 hm hml cnt sl HH fin R5 R5'
      by_cases h64 : (n1 + m) % 64 = 0
      · have h64' : ((n1 : Int) + (m : Int)) % 64 = 0 := by omega
        rw [if_pos h64] at FIN
        have w6 := Lib.hid (fun x hx => HH5.out.setN (n1 + m) x hx)
        by_cases hcm : c = m
        · rw [if_pos hcm] at FIN
          go_wp2_with (go_at_call 170; refine (MX.out _ _ _ _ (R.out.setCell 72 _) (w6.out _ (by omega))).mono ?_; rintro e w7 ⟨rfl, hH7, hR7⟩)
          exact ⟨FIN.out _ _ ((R.out.setCell 72 _).trans hR7) ((R'.out.setCell 72 _).trans hR7) hH7 (by simp [hcm]), by simp [lenOf]; omega⟩
        · rw [if_neg hcm] at FIN
          go_wp2_with (go_at_call 170; refine (MX.out _ _ _ _ (R.out.setCell 72 _) (w6.out _ (by omega))).mono ?_; rintro e w7 ⟨rfl, hH7, hR7⟩)
          exact ⟨FIN.out _ _ ((R.out.setCell 72 _).trans hR7) ((R'.out.setCell 72 _).trans hR7) hH7 rfl, by simp [lenOf]; omega⟩
      · have h64' : ¬ ((n1 : Int) + (m : Int)) % 64 = 0 := by omega
        rw [if_neg h64] at FIN
        have w6 := Lib.hid (fun x hx => HH5.out.setN (n1 + m) x hx)
        by_cases hcm : c = m
        · rw [if_pos hcm] at FIN
          go_wp2_with fail
          exact ⟨FIN.out _ _ (R.out.setCell 72 _) (R'.out.setCell 72 _) (w6.out _ (by omega)) (by simp [hcm]), by simp [lenOf]; omega⟩
        · rw [if_neg hcm] at FIN
          go_wp2_with fail
          exact ⟨FIN.out _ _ (R.out.setCell 72 _) (R'.out.setCell 72 _) (w6.out _ (by omega)) rfl, by simp [lenOf]; omega⟩
end Go.Proofs.YtnfobnnbeefeeaaGreatDoor.Sm
/- More bytes: Hash.Add. -/
namespace Go.Proofs.YtnfobnnbeefeeaaGreatDoor.Sm
open Go Go.RowKit
set_option linter.unusedVariables false

theorem feed_append (S K : List Nat) (h : HS) (xs ys : List UInt8) : feed S K h (xs ++ ys) = feed S K (feed S K h xs) ys := by unfold feed; exact List.foldl_append
theorem feed_n (S K : List Nat) : ∀ (xs : List UInt8) (h : HS), (feed S K h xs).n = h.n + xs.length
  | [], h => rfl
  | x :: xs, h => by
    show (feed S K (feed1 S K h x) xs).n = _
    rw [feed_n S K xs]
    have : (feed1 S K h x).n = h.n + 1 := by unfold feed1; split <;> rfl
    rw [this, List.length_cons]; omega
/-- Slices of bytes in a row. -/
def Parts (w : World) (b : Nat) (v : Value) (L : List (Value × List UInt8)) : Prop :=
  ∃ ao c, v = .slice ao L.length c ∧ (ao = none → L.length = 0) ∧ ∀ a, ao = some a → 0 < L.length → a.block ≠ b ∧ a.block < w.heap.size ∧ ∀ j p, L[j]? = some p → w.cell? (a.add j) = some p.1 ∧ Src w b p.1 p.2
theorem Parts.hs {w w' : World} {b : Nat} {v : Value} {L : List (Value × List UInt8)} (h : Parts w b v L) (hh : Hs w w' b) : Parts w' b v L := by
  obtain ⟨ao, c, hv, hno, hs⟩ := h
  refine ⟨ao, c, hv, hno, fun a ha hp => ?_⟩
  obtain ⟨h1, h2, h3⟩ := hs a ha hp
  refine ⟨h1, Nat.lt_of_lt_of_le h2 hh.size, fun j p hj => ⟨?_, (h3 j p hj).2.hs hh⟩⟩
  rw [World.cell?_of_block (w := w) (hh.block (a.add j).block (by rw [add_block]; exact h2) (by rw [add_block]; exact h1))]
  exact (h3 j p hj).1
def bytesOf (L : List (Value × List UInt8)) : List UInt8 := (L.map (·.2)).flatten
/-- What the two tables hold. -/
def Tables (w : World) (S K : List Nat) : Prop :=
  S.length = 8 ∧ K.length = 64 ∧ (∀ i, i < 8 → w.cell? ⟨1, i, none⟩ = some (.int .u32 ((S.getD i 0 : Nat) : Int))) ∧ ∀ i, i < 64 → w.cell? ⟨4, i, none⟩ = some (.int .u32 ((K.getD i 0 : Nat) : Int))
theorem Tables.lt {w : World} {S K : List Nat} (h : Tables w S K) : 1 < w.heap.size ∧ 4 < w.heap.size :=
  ⟨World.block_lt_of_cell? w _ (h.2.2.1 0 (by decide)), World.block_lt_of_cell? w _ (h.2.2.2 0 (by decide))⟩
theorem Tables.hs {w w' : World} {S K : List Nat} {b : Nat} (h : Tables w S K) (hh : Hs w w' b) (hbs : b ≠ 1) (hbk : b ≠ 4) : Tables w' S K :=
  ⟨h.1, h.2.1, fun i hi => (World.cell?_of_block (a := ⟨1, i, none⟩) (hh.block _ h.lt.1 (Ne.symm hbs))).trans (h.2.2.1 i hi), fun i hi => (World.cell?_of_block (a := ⟨4, i, none⟩) (hh.block _ h.lt.2 (Ne.symm hbk))).trans (h.2.2.2 i hi)⟩
theorem addPart_at {w : World} {b : Nat} {h0 : HS} (h : HashAt w b h0.G h0.B h0.n) {S K : List Nat} (ht : Tables w S K) (hbs : b ≠ 1) (hbk : b ≠ 4) {v : Value} {xs : List UInt8} (hv : Src w b v xs) (hn : h0.n + xs.length < 9223372036854775808) :
    Calls Tryz.prog 151 #[.pointer (some ⟨b, 0, none⟩), v] w fun e w' => e = .returned (.tuple #[]) ∧ HashAt w' b (feed S K h0 xs).G (feed S K h0 xs).B (feed S K h0 xs).n ∧ Hs w w' b :=
  addPart_any h S K ht.1 ht.2.1 ht.2.2.1 ht.2.2.2 hbs hbk v xs hv hn
def AdRel (w : World) (b : Nat) (h0 : HS) (S K : List Nat) (L : List (Value × List UInt8)) (u : Value) (wr : World) : Prop :=
  ∃ k : Nat, u = .int .i64 (k : Int) ∧ k ≤ L.length ∧ HashAt wr b (feed S K h0 (bytesOf (L.take k))).G (feed S K h0 (bytesOf (L.take k))).B (feed S K h0 (bytesOf (L.take k))).n ∧ Hs w wr b
set_option maxRecDepth 100000 in
set_option maxHeartbeats 2000000 in
theorem add_any {w : World} {b : Nat} {h0 : HS} (h : HashAt w b h0.G h0.B h0.n) {S K : List Nat} (ht : Tables w S K) (hbs : b ≠ 1) (hbk : b ≠ 4) {v : Value} {L : List (Value × List UInt8)} (hv : Parts w b v L) (hn : h0.n + (bytesOf L).length < 9223372036854775808) (hL : L.length < 9223372036854775808) :
    Calls Tryz.prog 132 #[.pointer (some ⟨b, 0, none⟩), v] w fun e w' => e = .returned (.tuple #[]) ∧ HashAt w' b (feed S K h0 (bytesOf L)).G (feed S K h0 (bytesOf L)).B (feed S K h0 (bytesOf L)).n ∧ Hs w w' b := by
  have hv' := hv
  obtain ⟨ao, c, rfl, hno, hs⟩ := hv'
  have HV := Lib.hid hv
  have HT := Lib.hid ht
  have HS0 := Lib.hid hs
  clear hs ht hv
  go_enter Tryz.func132, Tryz.ntmps132
  go_wp2_with fail
  go_loopw [8] (fun u wr => AdRel w b h0 S K L u wr) (fun u _ => L.length - (intOf u).toNat)
  case atStart => exact ⟨0, rfl, Nat.zero_le _, by simpa [feed, bytesOf] using h, Hs.refl _ _⟩
  case round =>
    obtain ⟨k, rfl, hk, hH, hR⟩ := hrel
    by_cases hkl : k < L.length
    · obtain ⟨ad, rfl⟩ : ∃ ad, ao = some ad := by
        cases ao with
        | none => have := hno rfl; omega
        | some ad => exact ⟨ad, rfl⟩
      obtain ⟨ao', c', hv', _, hs'⟩ := HV.out.hs hR
      obtain ⟨rfl, rfl⟩ : some ad = ao' ∧ c = c' := by simpa using hv'
      obtain ⟨_, _, h3⟩ := hs' ad rfl (by omega)
      obtain ⟨p, hp⟩ : ∃ p, p = L[k] := ⟨_, rfl⟩
      obtain ⟨cell, src⟩ := h3 k p (by rw [hp]; exact List.getElem?_eq_getElem hkl)
      have htk : bytesOf (L.take (k + 1)) = bytesOf (L.take k) ++ p.2 := by
        rw [List.take_succ_eq_append_getElem hkl, ← hp]
        simp [bytesOf]
      have hlen : (bytesOf (L.take (k + 1))).length ≤ (bytesOf L).length := by
        have : bytesOf L = bytesOf (L.take (k + 1)) ++ bytesOf (L.drop (k + 1)) := by
          rw [bytesOf, bytesOf, bytesOf, ← List.flatten_append, ← List.map_append, List.take_append_drop]
        rw [this, List.length_append]; omega
      rw [htk, List.length_append] at hlen
      have hc := addPart_at hH (HT.out.hs hR hbs hbk) hbs hbk src (by rw [feed_n]; omega)
      rw [← feed_append, ← htk] at hc
      have HC := Lib.hid hc
      have q0 : (0 : Int) ≤ (k : Int) := by omega
      have q1 : (k : Int) < (L.length : Int) := by omega
      clear hc hs' h3 hv' hp htk hlen hH src hno
      go_wp2_with (go_at_call 151; refine HC.out.mono ?_; rintro e w7 ⟨rfl, hH7, hR7⟩)
      exact ⟨⟨k + 1, by go_num, by omega, hH7, hR.trans hR7⟩, by simp [intOf]; omega⟩
    · obtain rfl : k = L.length := by omega
      rw [List.take_length] at hH
      go_wp2_with fail
      go_end0
      exact ⟨rfl, hH, hR⟩
end Go.Proofs.YtnfobnnbeefeeaaGreatDoor.Sm
/- What stands behind the last byte. -/
namespace Go.Proofs.YtnfobnnbeefeeaaGreatDoor.Sm
open Go Go.RowKit
set_option linter.unusedVariables false

/-- How many bits there were, its i'th byte from the end. -/
def flb (n i : Nat) : UInt8 := UInt8.ofNat (8 * n / 2 ^ (8 * i))
def FL (n t : Nat) : Nat → List UInt8
  | 0 => (List.replicate (t + 8) 0).set 0 128
  | i + 1 => (FL n t i).set (t + 7 - i) (flb n i)
theorem FL_length (n t : Nat) : ∀ i, (FL n t i).length = t + 8
  | 0 => by simp [FL]
  | i + 1 => by simp [FL, FL_length n t i]
theorem bvs_set (l : List UInt8) (i : Nat) (x : UInt8) : (bvs l).set i (bv x) = bvs (l.set i x) := by simp [bvs, List.map_set]
theorem bvs_get (l : List UInt8) (i : Nat) (h : i < l.length) : (bvs l)[i]? = some (.int .u8 ((l.getD i 0).toNat : Int)) := by simp [bvs, bv, List.getD, h]
def FlRel (w : World) (n t : Nat) (u : Value) (wr : World) : Prop :=
  ∃ i : Nat, u = .int .i64 (i : Int) ∧ i ≤ 8 ∧ wr.heap[w.heap.size]? = some (.cells (bvs (FL n t i)).toArray 5 (0, 0)) ∧ Below w.heap.size w wr
set_option maxRecDepth 100000 in
set_option maxHeartbeats 2000000 in
theorem filling_any {w : World} {b : Nat} {G : List Nat} {B : List UInt8} {n : Nat} (h : HashAt w b G B n) (hn : n < 1152921504606846976) :
    Calls Tryz.prog 152 #[.pointer (some ⟨b, 0, none⟩)] w fun e w' => ∃ t, t = 64 - (n + 8) % 64 ∧ e = .returned (.slice (some ⟨w.heap.size, 0, none⟩) (t + 8) (t + 8)) ∧ w'.heap[w.heap.size]? = some (.cells (bvs (FL n t 8)).toArray 5 (0, 0)) ∧ Below w.heap.size w w' := by
  have hb := h.lt
  have cnt := h.count
  have HH := Lib.hid h
  obtain ⟨q, hq⟩ : ∃ q, q = (n + 8) % 64 := ⟨_, rfl⟩
  have hq64 : q < 64 := by omega
  have hqI : ((n : Int) + 8) % 64 = (q : Int) := by omega
  have HQ := Lib.hid hq
  clear h hq
  obtain ⟨t, ht⟩ : ∃ t, t = 64 - q := ⟨_, rfl⟩
  have htI : 64 - (q : Int) = (t : Int) := by omega
  have t0 : 0 < t := by omega
  have t64 : t ≤ 64 := by omega
  have HTQ := Lib.hid ht
  clear ht
  have p1 : (0 : Int) ≤ (t : Int) := by omega
  have mk := Lib.hid (fun w' => run_make_row' (P := Tryz.prog) 36 5 (.int .u8 0) 1 Tryz.underlying36 (by kernel_rfl) rfl .u64 .u64 (t + 8) (by omega) (by omega) w')
  go_enter Tryz.func152, Tryz.ntmps152
  have hnew : (w.alloc (.cells (madeCells #[.int .u8 0] (t + 8)) 5)).heap[w.heap.size]? = some (.cells (bvs (List.replicate (t + 8) 0)).toArray 5 (0, 0)) := by
    rw [heap_alloc_new]
    congr 2
    apply Array.toList_inj.1
    rw [toList_madeCells_one]
    simp [bvs, bv]
  have z0 : (w.alloc (.cells (madeCells #[.int .u8 0] (t + 8)) 5)).cell? ⟨w.heap.size, 0, none⟩ = some (.int .u8 0) := by
    rw [cell_of_row _ _ 0 _ _ _ hnew]
    simp [bvs, bv]
  have f0 : (w.alloc (.cells (madeCells #[.int .u8 0] (t + 8)) 5)).frozen? ⟨w.heap.size, 0, none⟩ = false := frozen_of_row _ _ 0 _ _ hnew
  have NW := Lib.hid hnew
  clear hnew
  have mk' := mk.out
  simp only [Int.natCast_add, Int.cast_ofNat_Int] at mk'
  go_wp2
  have st := heap_setCell_same _ w.heap.size 0 _ _ (.int .u8 128) NW.out
  go_loopw [18] (fun u wr => FlRel w n t u wr) (fun u _ => 8 - (intOf u).toNat)
  case atStart =>
    refine ⟨0, rfl, Nat.zero_le _, ?_, (Below.refl _ _).alloc (Nat.le_refl _) _⟩
    rw [heap_alloc_new]
    congr 2
    apply Array.toList_inj.1
    rw [Array.toList_setIfInBounds, toList_madeCells_one]
    simp [FL, bvs, bv]
  case round =>
    obtain ⟨i, rfl, hi, r1, hBr⟩ := hrel
    by_cases h8 : i < 8
    · have cn : wr.cell? ⟨b, 72, none⟩ = some (.int .u64 (n : Int)) := (hBr.cell (p := ⟨b, 72, none⟩) hb).trans cnt
      have hl := FL_length n t i
      have gc : wr.cell? ⟨w.heap.size, t + 7 - i, none⟩ = some (.int .u8 (((FL n t i).getD (t + 7 - i) 0).toNat : Int)) := by
        rw [cell_of_row wr _ _ _ _ _ r1]
        simpa using bvs_get (FL n t i) (t + 7 - i) (by omega)
      have gf : wr.frozen? ⟨w.heap.size, t + 7 - i, none⟩ = false := frozen_of_row wr _ _ _ _ r1
      have R1 := Lib.hid r1
      clear r1 hl st mk' mk z0 f0 NW cnt htI hqI
      obtain ⟨j, hj⟩ : ∃ j, j = t + 7 - i := ⟨_, rfl⟩
      have hjI : (t : Int) + 8 - 1 - (i : Int) = (j : Int) := by omega
      have hjI' : (t : Int) + 7 - (i : Int) = (j : Int) := by omega
      have j1 : (j : Int) < (t : Int) + 8 := by omega
      have j2 : j < t + 8 := by omega
      have n1 : n * 8 < 18446744073709551616 := by omega
      have n2 : IntKind.u64.wrap ((n : Int) * 8) = (n : Int) * 8 := by rw [IntKind.wrap_u64]; omega
      have i1 : (0 : Int) ≤ 8 * (i : Int) := by omega
      have i2 : (8 * (i : Int)).toNat = 8 * i := by omega
      rw [← hj] at gc gf
      have HJ := Lib.hid hj
      clear hj
      go_wp2_with fail
      have hv : (n : Int) * 8 / 2 ^ (8 * i) % 256 = ((flb n i).toNat : Int) := by
        have : (flb n i).toNat = n * 8 / 2 ^ (8 * i) % 256 := by unfold flb; rw [Nat.mul_comm n 8]; simp
        rw [this]
        simp
      refine ⟨⟨i + 1, by go_num, by omega, ?_, hBr.setCell (Nat.le_refl _) _⟩, by simp [intOf]; omega⟩
      rw [hv, heap_setCell_same wr _ j _ _ _ R1.out]
      have e := bvs_set (FL n t i) j (flb n i)
      rw [HJ.out] at e ⊢
      show _ = some (Obj.cells (bvs ((FL n t i).set (t + 7 - i) (flb n i))).toArray 5 (0, 0))
      rw [← e]
      simp [bv]
    · obtain rfl : i = 8 := by omega
      go_wp2
      go_ret
      exact ⟨t, by rw [HTQ.out, HQ.out], rfl, r1, hBr⟩
end Go.Proofs.YtnfobnnbeefeeaaGreatDoor.Sm
