/- The law WholeBytes: its walk. -/
import Derived.Test.YtejbookaflnpeabDoorFw
import Derived.Test.YtejbookaflnpeabDoorGo
import Derived.Test.YtejbookaflnpeabDoorDb
import Derived.Test.YtejbookaflnpeabDoorDf
import Derived.Test.YtejbookaflnpeabDoorKn
namespace Go.Proofs.YtejbookaflnpeabDoor
open Go Go.RowKit
set_option linter.unusedVariables false

/-- A slice of numbers, a slice of strings, as they came in. -/
def Its (w : World) (v : Value) (Z : List Int) : Prop :=
  ∃ ao c, v = .slice ao Z.length c ∧ (ao = none → Z = []) ∧ ∀ a, ao = some a → ∀ j z, Z[j]? = some z → w.cell? (a.add j) = some (.int .i64 z)
theorem Its.below {w w' : World} {v : Value} {Z : List Int} {B : Nat} (h : Its w v Z) (hB : Below B w w') (hs : w.heap.size ≤ B) : Its w' v Z := by
  obtain ⟨ao, c, hv, hno, hc⟩ := h
  exact ⟨ao, c, hv, hno, fun a ha j t ht => cell_below hB hs (hc a ha j t ht)⟩
def Tts (w : World) (v : Value) (T : List (List UInt8)) : Prop :=
  ∃ ao c, v = .slice ao T.length c ∧ (ao = none → T = []) ∧ ∀ a, ao = some a → ∀ j t, T[j]? = some t → w.cell? (a.add j) = some (.string (str t))
theorem Tts.below {w w' : World} {v : Value} {T : List (List UInt8)} {B : Nat} (h : Tts w v T) (hB : Below B w w') (hs : w.heap.size ≤ B) : Tts w' v T := by
  obtain ⟨ao, c, hv, hno, hc⟩ := h
  exact ⟨ao, c, hv, hno, fun a ha j t ht => cell_below hB hs (hc a ha j t ht)⟩
def encs (Z : List Int) : List UInt8 := (Z.map fun z => Wi.enc (Wi.zig z)).flatten
def encT (T : List (List UInt8)) : List UInt8 := (T.map fun t => Wi.enc t.length ++ t).flatten
theorem encs_succ (Z : List Int) (k : Nat) (h : k < Z.length) : encs (Z.take (k + 1)) = encs (Z.take k) ++ Wi.enc (Wi.zig Z[k]) := by
  unfold encs
  rw [List.take_succ_eq_append_getElem h, List.map_append, List.flatten_append]
  simp
theorem encT_succ (T : List (List UInt8)) (k : Nat) (h : k < T.length) : encT (T.take (k + 1)) = encT (T.take k) ++ (Wi.enc T[k].length ++ T[k]) := by
  unfold encT
  rw [List.take_succ_eq_append_getElem h, List.map_append, List.flatten_append]
  simp
def WaRel (w5 : World) (Z : List Int) (u : Value) (wr : World) : Prop :=
  ∃ (k : Nat) (r : Option Nat), u = .int .i64 (k : Int) ∧ k ≤ Z.length ∧ Wi.Wr wr w5.heap.size r (encs (Z.take k)) ∧ (encs (Z.take k)).length ≤ 10 * k ∧ (∀ g, r = some g → w5.heap.size ≤ g) ∧ Below w5.heap.size w5 wr
def WtRel (w5 : World) (A : List UInt8) (T : List (List UInt8)) (u : Value) (wr : World) : Prop :=
  ∃ (k : Nat) (r : Option Nat), u = .int .i64 (k : Int) ∧ k ≤ T.length ∧ Wi.Wr wr w5.heap.size r (A ++ encT (T.take k)) ∧ (A ++ encT (T.take k)).length ≤ 300 + 210 * k ∧ (∀ j, j < k → (T.getD j []).length ≤ 200) ∧ (∀ g, r = some g → w5.heap.size ≤ g) ∧ Below w5.heap.size w5 wr
theorem src_one' {tx e : TypeId} (hk : Tryd.prog.underlying tx = some (.slice e)) (w : World) (v : Value) (h1 : v.oneCell' = true) : Go.Src Tryd.prog 1 tx (.slice (some ⟨w.heap.size, 0, none⟩) 1 1) 1 [v] (w.alloc (.cells #[v] e)) :=
  Src.any _ (e' := e) hk _ 1 1 [v] rfl (fun h => by cases h) (fun a ha j u hu => by
    cases ha
    match j, hu with
    | 0, hu =>
      obtain rfl : v = u := by simpa using hu
      rw [Addr.add_mid, Nat.zero_add, cell_of_row _ _ 0 _ _ _ (heap_alloc_new w _)]; rfl
    | j + 1, hu => simp at hu) (fun u hu => by
    obtain rfl : u = v := by simpa using hu
    exact h1)
def ivs (Z : List Int) : List Value := Z.map (Value.int .i64)
theorem ivs_length (Z : List Int) : (ivs Z).length = Z.length := by simp [ivs]
theorem Its.src {w : World} {ao : Option Addr} {c : Nat} {Z : List Int} (h : Its w (.slice ao Z.length c) Z) {tx : TypeId} {e : TypeId} (hk : Tryd.prog.underlying tx = some (.slice e)) : Go.Src Tryd.prog 1 tx (.slice ao Z.length c) Z.length (ivs Z) w := by
  obtain ⟨ao', c', hv, hno, hc⟩ := h
  obtain ⟨rfl, rfl⟩ : ao = ao' ∧ c = c' := by simpa using hv
  refine Src.any _ (e' := e) hk ao _ c (ivs Z) (by rw [ivs_length, Nat.mul_one]) (fun h => by rw [hno h]; rfl) (fun a ha j u hu => ?_) (fun u hu => ?_)
  · simp only [ivs, List.getElem?_map, Option.map_eq_some_iff] at hu
    obtain ⟨z, hz, rfl⟩ := hu
    exact hc a ha j z hz
  · obtain ⟨_, _, rfl⟩ := List.mem_map.1 hu
    rfl
theorem Tryd.infoI : (Tryd.prog.info? 3).map (fun i => (i.zero, i.size, i.bytes)) = some (some (.int .i64 0), 1, 8) := by kernel_rfl
def WcRel (w6 w9 : World) (gH : Nat) (XS : List UInt8) (m : Nat) (v u15 u80 : Value) (wr : World) : Prop :=
  ∃ (k at' : Nat) (P : List (Value × List UInt8)), u80 = .int .i64 (k : Int) ∧ k ≤ m ∧ u15 = .int .i64 (at' : Int) ∧ at' ≤ XS.length ∧ (k = m → at' = XS.length) ∧ P.length = k ∧ bytesOf P = XS.take at' ∧ (∀ p ∈ P, Bs w6 p.1 p.2) ∧
    wr.ownsRow w9.heap.size 41 1 v k (P.map (·.1)) ∧ HashAt wr gH (feed S0 K0 H0 (XS.take at')).G (feed S0 K0 H0 (XS.take at')).B (feed S0 K0 H0 (XS.take at')).n ∧ Hs w9 wr gH
theorem own_cell {w : World} {base : Nat} {e : TypeId} {v : Value} {n : Nat} {xs : List Value} (h : w.ownsRow base e 1 v n xs) {k : Nat} {u : Value} (hk : xs[k]? = some u) : ∃ g cap, v = .slice (some ⟨g, 0, none⟩) n cap ∧ base ≤ g ∧ g < w.heap.size ∧ w.cell? ⟨g, k, none⟩ = some u := by
  have hl : k < n := by
    have := (List.getElem?_eq_some_iff.1 hk).1
    rw [h.1] at this; omega
  rcases h.2 with ⟨_, h0⟩ | ⟨g, cap, cur, hv, hb, hg, hn, hm, hs, ht⟩
  · omega
  · refine ⟨g, cap, hv, hb, (Array.getElem?_eq_some_iff.1 hg).1, ?_⟩
    rw [cell_of_row w g k _ _ _ hg]
    rw [← ht, List.getElem?_take, if_pos (by omega)] at hk
    simpa using hk
theorem infoBs : (Tryd.prog.info? 41).map (fun i => (i.zero, i.size, i.bytes)) = some (some (.slice none 0 0), 1, 24) := by kernel_rfl
theorem Bs.sub {w : World} {ao : Option Addr} {n c : Nat} {XS : List UInt8} (h : Bs w (.slice ao n c) XS) (hn : XS.length = n) {q d : Nat} (hqd : q + d ≤ n) :
    n ≤ c ∧ Bs w (.slice (if c = q then ao else Option.map (fun x => x.add q) ao) d (c - q)) ((XS.drop q).take d) := by
  obtain ⟨ao', c', hv, hc, hno, hs⟩ := h
  rw [hn] at hv hc hno
  obtain ⟨rfl, rfl⟩ : ao = ao' ∧ c = c' := by simpa using hv
  have hl : ((XS.drop q).take d).length = d := by rw [List.length_take, List.length_drop]; omega
  refine ⟨hc, _, _, by rw [hl], by omega, fun e => ?_, fun a ha j u hu => ?_⟩
  · rw [hl]
    split at e
    · have := hno e; omega
    · have := hno (by simpa using e); omega
  · have hj : j < d := by
      have := (List.getElem?_eq_some_iff.1 hu).1
      rwa [bvs_length, hl] at this
    split at ha
    · omega
    · obtain ⟨a0, rfl, rfl⟩ : ∃ a0, ao = some a0 ∧ a0.add q = a := by simpa using ha
      rw [Addr.add_add]
      refine hs a0 rfl (q + j) u ?_
      simp only [bvs, List.getElem?_map, List.getElem?_take, List.getElem?_drop, hj, if_true] at hu ⊢
      exact hu
theorem feed_two (S K : List Nat) (h : HS) (a b : List UInt8) : feed S K h (a ++ b) = feed S K (feed S K h a) b := by simp [feed]
theorem feed1_n (S K : List Nat) (h : HS) (x : UInt8) : (feed1 S K h x).n = h.n + 1 := by unfold feed1; split <;> rfl
theorem feed_len (S K : List Nat) : ∀ (xs : List UInt8) (h : HS), (feed S K h xs).n = h.n + xs.length
  | [], h => rfl
  | x :: xs, h => by
    show (feed S K (feed1 S K h x) xs).n = _
    rw [feed_len S K xs, feed1_n, List.length_cons]; omega
theorem Pt.ofOwn {w : World} {base : Nat} {v : Value} {P : List (Value × List UInt8)} (h : w.ownsRow base 41 1 v P.length (P.map (·.1))) (hb : ∀ p ∈ P, Bs w p.1 p.2) : Pt w v P := by
  have hh := h
  rcases h.2 with ⟨rfl, h0⟩ | ⟨g, cap, cur, rfl, _⟩
  · exact ⟨Option.none, 0, by rw [h0], fun _ => h0, by intro a e; cases e⟩
  · refine ⟨some ⟨g, 0, Option.none⟩, cap, rfl, (by intro e; cases e), fun a ha j p hj => ?_⟩
    cases ha
    have h1 : (P.map (·.1))[j]? = some p.1 := by rw [List.getElem?_map, hj]; rfl
    obtain ⟨g', cap', hv', _, _, hc⟩ := own_cell hh h1
    have e : g = g' := by simp at hv'; exact hv'.1
    subst e
    exact ⟨by rw [Addr.add_mid, Nat.zero_add]; exact hc, hb p (List.mem_of_getElem? hj)⟩
theorem part_le : ∀ {P : List (Value × List UInt8)} {p : Value × List UInt8}, p ∈ P → p.2.length ≤ (bytesOf P).length
  | q :: P, p, h => by
    have e : bytesOf (q :: P) = q.2 ++ bytesOf P := by simp [bytesOf]
    rw [e, List.length_append]
    rcases List.mem_cons.1 h with rfl | h
    · omega
    · have := part_le h; omega
theorem chain_gen (S K : List Nat) (f XS : List UInt8) : sumsTo S K f [XS] 1 = shaL S K (f ++ XS) := by
  simp [sumsTo, prevS]
theorem chain_one (XS : List UInt8) : sumsTo S0 K0 (List.replicate 32 0) [XS] 1 = shaL S0 K0 (List.replicate 32 0 ++ XS) := chain_gen S0 K0 _ XS
theorem wpList_load_rowW {P : Program} {ops : Array Oper} {rest : List Oper} {o : Oper} {a : Act} {w : World} {Q : Exit → Act → World → Prop} (hw : Region.wanted o (yielded ops a.tmps) = true) (ty : TypeId) (x : Operand) (ho : o.op = .load ty x)
    (g : Nat) (hx : a.eval x = .pointer (some ⟨g, 0, none⟩)) (cs : List Value) (d : TypeDesc) (hc : w.rangeAt g 0 cs) (hu : P.underlying ty = some d) (hd : d.isRow = true) (hi : (P.info? ty).map (·.size) = some cs.length)
    (h : wpList P ops Q rest (a.put o.dst (.agg cs.toArray)) w) : wpList P ops Q (o :: rest) a w := by
  unfold wpList
  rw [if_pos hw]
  refine .inl ?_
  exact wp_load_mid ty x ho g 0 hx cs d hc hu hd hi h
theorem encs_append (Z Z' : List Int) : encs (Z ++ Z') = encs Z ++ encs Z' := by simp [encs]
theorem encT_append (T T' : List (List UInt8)) : encT (T ++ T') = encT T ++ encT T' := by simp [encT]
theorem encs_drop (Z : List Int) (X : List UInt8) (k : Nat) (h : k < Z.length) : (encs Z ++ X).drop (encs (Z.take k)).length = Wi.enc (Wi.zig Z[k]) ++ (encs (Z.drop (k + 1)) ++ X) := by
  have e : encs Z = encs (Z.take k) ++ (Wi.enc (Wi.zig Z[k]) ++ encs (Z.drop (k + 1))) := by
    have h2 : Z = Z.take k ++ ([Z[k]] ++ Z.drop (k + 1)) := by simp
    conv => lhs; rw [h2]
    rw [encs_append, encs_append]
    congr 2
    simp [encs]
  rw [e, List.append_assoc, List.drop_left' rfl, List.append_assoc]
theorem encT_drop (A : List UInt8) (T : List (List UInt8)) (k : Nat) (h : k < T.length) : (A ++ encT T).drop (A ++ encT (T.take k)).length = Wi.enc T[k].length ++ (T[k] ++ encT (T.drop (k + 1))) := by
  have e : encT T = encT (T.take k) ++ (Wi.enc T[k].length ++ T[k] ++ encT (T.drop (k + 1))) := by
    have h2 : T = T.take k ++ ([T[k]] ++ T.drop (k + 1)) := by simp
    conv => lhs; rw [h2]
    rw [encT_append, encT_append]
    congr 2
    simp [encT]
  rw [e, ← List.append_assoc, List.drop_left' rfl, List.append_assoc]
def WqRel (w15 : World) (b : Nat) (r : Option Nat) (XS : List UInt8) (Z : List Int) (u : Value) (wr : World) : Prop :=
  ∃ k : Nat, u = .int .i64 (k : Int) ∧ k ≤ Z.length ∧ Wi.Rd wr b r XS (encs (Z.take k)).length 0 ∧ Below w15.heap.size w15 wr
def WsRel (w15 : World) (b : Nat) (r : Option Nat) (XS A : List UInt8) (T : List (List UInt8)) (u : Value) (wr : World) : Prop :=
  ∃ k : Nat, u = .int .i64 (k : Int) ∧ k ≤ T.length ∧ Wi.Rd wr b r XS (A ++ encT (T.take k)).length 0 ∧ Below w15.heap.size w15 wr
set_option maxRecDepth 100000 in
set_option maxHeartbeats 8000000 in
theorem wb_long {w : World} {v0 v1 v2 : Value} {Z Y : List Int} {T : List (List UInt8)} (h0 : Its w v0 Z) (h1 : Tts w v1 T) (h2 : Its w v2 Y) (hZ : ∀ z ∈ Z, -9223372036854775808 ≤ z ∧ z ≤ 9223372036854775807)
    (hY : ∀ z ∈ Y, -9223372036854775808 ≤ z ∧ z ≤ 9223372036854775807) (ht : Tables w S0 K0) (hL : 30 < Z.length ∨ (Z.length ≤ 30 ∧ 20 < T.length) ∨ (Z.length ≤ 30 ∧ T.length ≤ 20 ∧ 40 < Y.length)) :
    Calls Tryd.prog 5 #[v0, v1, v2] w fun e w' => e = .returned (.bool true) ∧ Below w.heap.size w w' := by
  have H0' := Lib.hid h0
  have H1' := Lib.hid h1
  have H2' := Lib.hid h2
  have HZ := Lib.hid hZ
  have HY := Lib.hid hY
  obtain ⟨a0, c0, rfl, hno0, _⟩ := h0
  obtain ⟨a1, c1, rfl, hno1, _⟩ := h1
  obtain ⟨a2, c2, rfl, hno2, _⟩ := h2
  obtain ⟨n0, hz0⟩ : ∃ n, n = Z.length := ⟨_, rfl⟩
  obtain ⟨n1, hz1⟩ : ∃ n, n = T.length := ⟨_, rfl⟩
  obtain ⟨n2, hz2⟩ : ∃ n, n = Y.length := ⟨_, rfl⟩
  rw [← hz0, ← hz1, ← hz2] at hL ⊢
  have N0 := Lib.hid hz0
  have N1 := Lib.hid hz1
  have N2 := Lib.hid hz2
  have NO0 := Lib.hid hno0
  have NO1 := Lib.hid hno1
  have NO2 := Lib.hid hno2
  clear hZ hY hz0 hz1 hz2 hno0 hno1 hno2
  have HT := Lib.hid ht
  have cv := conv_bytes
  obtain ⟨w2, hw2⟩ : ∃ w2, w2 = (w.alloc (.cells #[.int .u8 49, .int .u8 50, .int .u8 51, .int .u8 52, .int .u8 53, .int .u8 54, .int .u8 55, .int .u8 56, .int .u8 57] 5 (9, 10))).alloc (.cells #[.slice (some ⟨w.heap.size, 0, none⟩) 9 9] 41) := ⟨_, rfl⟩
  have B2 : Below w.heap.size w w2 := by
    rw [hw2]
    exact ((Below.refl _ _).alloc (Nat.le_refl _) _).alloc (by simp) _
  have r1 : w2.heap[w.heap.size]? = some (.cells (bvs [49, 50, 51, 52, 53, 54, 55, 56, 57]).toArray 5 (9, 10)) := by
    rw [hw2, Below.heap_alloc _ _ _ (by simp)]
    exact heap_alloc_new w _
  have r2 : w2.heap[w.heap.size + 1]? = some (.cells #[.slice (some ⟨w.heap.size, 0, none⟩) 9 9] 41 (0, 0)) := by
    have := heap_alloc_new (w.alloc (.cells #[.int .u8 49, .int .u8 50, .int .u8 51, .int .u8 52, .int .u8 53, .int .u8 54, .int .u8 55, .int .u8 56, .int .u8 57] 5 (9, 10))) (.cells #[.slice (some ⟨w.heap.size, 0, none⟩) 9 9] 41)
    rw [World.size_alloc] at this
    rw [hw2]
    exact this
  have C := crc_any (Pt.one r2 (Bs.ofRow rfl (Nat.le_refl _) r1)) (by simp) (by simp)
  rw [show bytesOf [(Value.slice (some ⟨w.heap.size, 0, none⟩) 9 9, ([49, 50, 51, 52, 53, 54, 55, 56, 57] : List UInt8))] = [49, 50, 51, 52, 53, 54, 55, 56, 57] from rfl, crc_known] at C
  have HC := Lib.hid C
  have HW2 := Lib.hid hw2
  clear C r1 r2 hw2 ht
  go_enter Tryd.func5, Tryd.ntmps5
  go_wp2_with fail
  rw [← HW2.out]
  refine HC.out.mono ?_
  rintro e w' ⟨rfl, rfl⟩
  obtain ⟨w4, hw4⟩ : ∃ w4, w4 = (w2.alloc (.cells #[.int .u8 97, .int .u8 98, .int .u8 99] 5 (3, 4))).alloc (.cells #[.slice (some ⟨w2.heap.size, 0, none⟩) 3 3] 41) := ⟨_, rfl⟩
  have B4 : Below w2.heap.size w2 w4 := by
    rw [hw4]
    exact ((Below.refl _ _).alloc (Nat.le_refl _) _).alloc (by simp) _
  have r1 : w4.heap[w2.heap.size]? = some (.cells (bvs [97, 98, 99]).toArray 5 (3, 4)) := by
    rw [hw4, Below.heap_alloc _ _ _ (by simp)]
    exact heap_alloc_new w2 _
  have r2 : w4.heap[w2.heap.size + 1]? = some (.cells #[.slice (some ⟨w2.heap.size, 0, none⟩) 3 3] 41 (0, 0)) := by
    have := heap_alloc_new (w2.alloc (.cells #[.int .u8 97, .int .u8 98, .int .u8 99] 5 (3, 4))) (.cells #[.slice (some ⟨w2.heap.size, 0, none⟩) 3 3] 41)
    rw [World.size_alloc] at this
    rw [hw4]
    exact this
  have z2 := B2.size
  have T4 := (HT.out.below B2 (Nat.le_refl _)).below B4 (Nat.le_refl _)
  have O := of_any (Pt.one r2 (Bs.ofRow rfl (Nat.le_refl _) r1)) T4 (by simp [bytesOf]) (by simp)
  rw [show bytesOf [(Value.slice (some ⟨w2.heap.size, 0, none⟩) 3 3, ([97, 98, 99] : List UInt8))] = [97, 98, 99] from rfl] at O
  have B4' := B2.trans (B4.mono z2)
  have HO := Lib.hid O
  have HW4 := Lib.hid hw4
  have HT4 := Lib.hid T4
  clear O r1 r2 hw4 T4 HC HW2 B4 B2
  go_wp2_with fail
  rw [← HW4.out]
  refine HO.out.mono ?_
  rintro e w5 ⟨rfl, B5⟩
  have ix := index_sum (bvs (shaL S0 K0 [97, 98, 99])).toArray 0 (.int .u8 186) (by decide) (by rw [List.size_toArray, bvs_length, shaL_length]) (by
    rw [bvs_lit _ _ (by rw [shaL_length]; decide)]
    unfold shaL
    rw [sha_R S0 K0 rfl S0_lt, sha_abc]
    rfl)
  have ix' : ∀ (w : World), (Instr.index 43 (.agg (bvs (shaL S0 K0 [97, 98, 99])).toArray) (.int .i64 0)).run Tryd.prog w = .ok (.int .u8 186) w := fun w => by simpa using ix .i64 w
  have B5' := B4'.trans (B5.mono B4'.size)
  have HB5 := Lib.hid B5'
  have IX := Lib.hid ix'
  clear ix HO HW4 HT4 B5 B4' B5'
  rcases hL with h | ⟨h, h1⟩ | ⟨h, h1, h2⟩
  · have hI : (30 : Int) < (n0 : Int) := by omega
    clear IX
    go_wp2_with fail
    go_ret
    exact ⟨rfl, HB5.out⟩
  · have hI : ¬ (30 : Int) < (n0 : Int) := by omega
    have hI1 : (20 : Int) < (n1 : Int) := by omega
    clear IX
    go_wp2_with fail
    go_ret
    exact ⟨rfl, HB5.out⟩
  · have hI : ¬ (30 : Int) < (n0 : Int) := by omega
    have hI1 : ¬ (20 : Int) < (n1 : Int) := by omega
    have hI2 : (40 : Int) < (n2 : Int) := by omega
    clear IX
    go_wp2_with fail
    go_ret
    exact ⟨rfl, HB5.out⟩
set_option maxRecDepth 100000 in
set_option maxHeartbeats 8000000 in
theorem wb_short {w : World} {v0 v1 v2 : Value} {Z Y : List Int} {T : List (List UInt8)} (h0 : Its w v0 Z) (h1 : Tts w v1 T) (h2 : Its w v2 Y) (hZ : ∀ z ∈ Z, -9223372036854775808 ≤ z ∧ z ≤ 9223372036854775807)
    (hY : ∀ z ∈ Y, -9223372036854775808 ≤ z ∧ z ≤ 9223372036854775807) (ht : Tables w S0 K0) (hn0 : Z.length ≤ 30) (hn1 : T.length ≤ 20) (hn2 : Y.length ≤ 40) :
    Calls Tryd.prog 5 #[v0, v1, v2] w fun e w' => e = .returned (.bool true) ∧ Below w.heap.size w w' := by
  have H0' := Lib.hid h0
  have H1' := Lib.hid h1
  have H2' := Lib.hid h2
  have HZ := Lib.hid hZ
  have HY := Lib.hid hY
  obtain ⟨a0, c0, rfl, hno0, _⟩ := h0
  obtain ⟨a1, c1, rfl, hno1, _⟩ := h1
  obtain ⟨a2, c2, rfl, hno2, _⟩ := h2
  obtain ⟨n0, hz0⟩ : ∃ n, n = Z.length := ⟨_, rfl⟩
  obtain ⟨n1, hz1⟩ : ∃ n, n = T.length := ⟨_, rfl⟩
  obtain ⟨n2, hz2⟩ : ∃ n, n = Y.length := ⟨_, rfl⟩
  rw [← hz0] at hn0 ⊢
  rw [← hz1] at hn1 ⊢
  rw [← hz2] at hn2 ⊢
  have N0 := Lib.hid hz0
  have N1 := Lib.hid hz1
  have N2 := Lib.hid hz2
  have NO0 := Lib.hid hno0
  have NO1 := Lib.hid hno1
  have NO2 := Lib.hid hno2
  clear hZ hY hz0 hz1 hz2 hno0 hno1 hno2
  have HT := Lib.hid ht
  have cv := conv_bytes
  obtain ⟨w2, hw2⟩ : ∃ w2, w2 = (w.alloc (.cells #[.int .u8 49, .int .u8 50, .int .u8 51, .int .u8 52, .int .u8 53, .int .u8 54, .int .u8 55, .int .u8 56, .int .u8 57] 5 (9, 10))).alloc (.cells #[.slice (some ⟨w.heap.size, 0, none⟩) 9 9] 41) := ⟨_, rfl⟩
  have B2 : Below w.heap.size w w2 := by
    rw [hw2]
    exact ((Below.refl _ _).alloc (Nat.le_refl _) _).alloc (by simp) _
  have r1 : w2.heap[w.heap.size]? = some (.cells (bvs [49, 50, 51, 52, 53, 54, 55, 56, 57]).toArray 5 (9, 10)) := by
    rw [hw2, Below.heap_alloc _ _ _ (by simp)]
    exact heap_alloc_new w _
  have r2 : w2.heap[w.heap.size + 1]? = some (.cells #[.slice (some ⟨w.heap.size, 0, none⟩) 9 9] 41 (0, 0)) := by
    have := heap_alloc_new (w.alloc (.cells #[.int .u8 49, .int .u8 50, .int .u8 51, .int .u8 52, .int .u8 53, .int .u8 54, .int .u8 55, .int .u8 56, .int .u8 57] 5 (9, 10))) (.cells #[.slice (some ⟨w.heap.size, 0, none⟩) 9 9] 41)
    rw [World.size_alloc] at this
    rw [hw2]
    exact this
  have C := crc_any (Pt.one r2 (Bs.ofRow rfl (Nat.le_refl _) r1)) (by simp) (by simp)
  rw [show bytesOf [(Value.slice (some ⟨w.heap.size, 0, none⟩) 9 9, ([49, 50, 51, 52, 53, 54, 55, 56, 57] : List UInt8))] = [49, 50, 51, 52, 53, 54, 55, 56, 57] from rfl, crc_known] at C
  have HC := Lib.hid C
  have HW2 := Lib.hid hw2
  clear C r1 r2 hw2 ht
  go_enter Tryd.func5, Tryd.ntmps5
  go_wp2_with fail
  rw [← HW2.out]
  refine HC.out.mono ?_
  rintro e w' ⟨rfl, rfl⟩
  obtain ⟨w4, hw4⟩ : ∃ w4, w4 = (w2.alloc (.cells #[.int .u8 97, .int .u8 98, .int .u8 99] 5 (3, 4))).alloc (.cells #[.slice (some ⟨w2.heap.size, 0, none⟩) 3 3] 41) := ⟨_, rfl⟩
  have B4 : Below w2.heap.size w2 w4 := by
    rw [hw4]
    exact ((Below.refl _ _).alloc (Nat.le_refl _) _).alloc (by simp) _
  have r1 : w4.heap[w2.heap.size]? = some (.cells (bvs [97, 98, 99]).toArray 5 (3, 4)) := by
    rw [hw4, Below.heap_alloc _ _ _ (by simp)]
    exact heap_alloc_new w2 _
  have r2 : w4.heap[w2.heap.size + 1]? = some (.cells #[.slice (some ⟨w2.heap.size, 0, none⟩) 3 3] 41 (0, 0)) := by
    have := heap_alloc_new (w2.alloc (.cells #[.int .u8 97, .int .u8 98, .int .u8 99] 5 (3, 4))) (.cells #[.slice (some ⟨w2.heap.size, 0, none⟩) 3 3] 41)
    rw [World.size_alloc] at this
    rw [hw4]
    exact this
  have z2 := B2.size
  have T4 := (HT.out.below B2 (Nat.le_refl _)).below B4 (Nat.le_refl _)
  have O := of_any (Pt.one r2 (Bs.ofRow rfl (Nat.le_refl _) r1)) T4 (by simp [bytesOf]) (by simp)
  rw [show bytesOf [(Value.slice (some ⟨w2.heap.size, 0, none⟩) 3 3, ([97, 98, 99] : List UInt8))] = [97, 98, 99] from rfl] at O
  have B4' := B2.trans (B4.mono z2)
  have HO := Lib.hid O
  have HW4 := Lib.hid hw4
  have HT4 := Lib.hid T4
  clear O r1 r2 hw4 T4 HC HW2 B4 B2
  go_wp2_with fail
  rw [← HW4.out]
  refine HO.out.mono ?_
  rintro e w5 ⟨rfl, B5⟩
  have ix := index_sum (bvs (shaL S0 K0 [97, 98, 99])).toArray 0 (.int .u8 186) (by decide) (by rw [List.size_toArray, bvs_length, shaL_length]) (by
    rw [bvs_lit _ _ (by rw [shaL_length]; decide)]
    unfold shaL
    rw [sha_R S0 K0 rfl S0_lt, sha_abc]
    rfl)
  have ix' : ∀ (w : World), (Instr.index 43 (.agg (bvs (shaL S0 K0 [97, 98, 99])).toArray) (.int .i64 0)).run Tryd.prog w = .ok (.int .u8 186) w := fun w => by simpa using ix .i64 w
  have B5' := B4'.trans (B5.mono B4'.size)
  have HB5 := Lib.hid B5'
  have IX := Lib.hid ix'
  clear ix HO HW4 HT4 B5 B4' B5'
  have hI0 : ¬ (30 : Int) < (n0 : Int) := by omega
  have hI1 : ¬ (20 : Int) < (n1 : Int) := by omega
  have hI2 : ¬ (40 : Int) < (n2 : Int) := by omega
  have ALLOC := Lib.hid (heap_alloc_new w5 (.cells #[.slice none 0 0] 46))
  go_wp2_with fail
  clear IX ix'
  go_loopw [9, 51] (fun _ u wr => WaRel w5 Z u wr) (fun _ u _ => n0 - (intOf u).toNat)
  case atStart => exact ⟨0, none, rfl, Nat.zero_le _, ⟨_, ALLOC.out, World.ownsRow_nil _ _ _ _, rfl⟩, Nat.le_refl _, (fun g e => by cases e), (Below.refl _ _).alloc (Nat.le_refl _) _⟩
  case round =>
    clear ALLOC
    obtain ⟨wr0, rfl⟩ : ∃ wr0 : World, wr0 = wr := ⟨_, rfl⟩
    obtain ⟨k, r, rfl, hk, hW, hlen, hr, hBr⟩ := hrel
    rw [← N0.out] at hk
    by_cases hkn : k < n0
    · obtain ⟨ad, rfl⟩ : ∃ ad, a0 = some ad := by
        cases a0 with
        | none => have := NO0.out rfl; have h2 := N0.out; rw [this] at h2; simp at h2; omega
        | some ad => exact ⟨ad, rfl⟩
      have hkZ : k < Z.length := by rw [← N0.out]; exact hkn
      have hBw := HB5.out.trans (hBr.mono HB5.out.size)
      obtain ⟨ao', c', hv', _, hs'⟩ := H0'.out.below hBw (Nat.le_refl _)
      obtain ⟨rfl, rfl⟩ : some ad = ao' ∧ c0 = c' := by simp at hv'; exact ⟨by simp [hv'], by simp [hv']⟩
      obtain ⟨z, hz⟩ : ∃ z, z = Z[k] := ⟨_, rfl⟩
      have cell := hs' ad rfl k z (by rw [hz]; exact List.getElem?_eq_getElem hkZ)
      have hzb := HZ.out z (by rw [hz]; exact List.getElem_mem _)
      have hes := encs_succ Z k hkZ
      rw [← hz] at hes
      have hel := Wi.enc_length (Wi.zig z)
      have C := Lib.hid (Wi.int_one hW wr0.heap.size rfl z hzb.1 hzb.2 (by omega))
      have HEND := Lib.hid (show ∀ w', Wi.Wrote wr0 w' w5.heap.size r (encs (Z.take k) ++ Wi.enc (Wi.zig z)) → WaRel w5 Z (.int .i64 ((k : Int) + 1)) w' from by
        rintro w' ⟨r', hW', hF, hr'⟩
        rw [← hes] at hW'
        refine ⟨k + 1, r', by go_num, by omega, hW', ?_, ?_, ?_⟩
        · rw [hes, List.length_append]; omega
        · intro g hg
          rcases hr' with rfl | ⟨g', rfl, hg'⟩
          · exact hr g hg
          · cases hg; exact Nat.le_trans hBr.size hg'
        · exact hBr.trans (hF.below hBr.size (Nat.le_refl _) hr))
      have q0 : (0 : Int) ≤ (k : Int) := by omega
      have q1 : (k : Int) < (n0 : Int) := by omega
      clear hs' hv' hz hzb hes hel hW hr hBr hBw hlen
      go_wp2_with fail
      refine C.out.mono ?_
      rintro e w2 ⟨rfl, hWr⟩
      have E1 := Lib.hid (HEND.out w2 hWr)
      clear C HEND hWr
      go_wp2_with fail
      exact ⟨E1.out, by simp [intOf]; omega⟩
    · obtain rfl : n0 = k := by omega
      have htk : Z.take n0 = Z := List.take_of_length_le (by rw [← N0.out]; exact Nat.le_refl _)
      rw [htk] at hW hlen
      obtain ⟨A, hA⟩ : ∃ A, A = encs Z := ⟨_, rfl⟩
      rw [← hA] at hW hlen
      have HA := Lib.hid hA
      have HW := Lib.hid hW
      have HR := Lib.hid hr
      have HBR := Lib.hid hBr
      clear hA hW hr hBr htk hk
      go_wp2_with fail
      go_loopw [11, 61] (fun _ u wr => WtRel w5 A T u wr) (fun _ u _ => n1 - (intOf u).toNat)
      case atStart => exact ⟨0, r, rfl, Nat.zero_le _, by simpa [encT] using HW.out, by simp [encT]; omega, (fun j h => by omega), HR.out, HBR.out⟩
      case round =>
        clear HW HR HBR hlen
        obtain ⟨wr1, rfl⟩ : ∃ wr1 : World, wr1 = wr := ⟨_, rfl⟩
        obtain ⟨k, r, rfl, hk, hW, hlen, hsm, hr, hBr⟩ := hrel
        rw [← N1.out] at hk
        have hBw := HB5.out.trans (hBr.mono HB5.out.size)
        by_cases hkn : k < n1
        · obtain ⟨ad, rfl⟩ : ∃ ad, a1 = some ad := by
            cases a1 with
            | none => have := NO1.out rfl; have h2 := N1.out; rw [this] at h2; simp at h2; omega
            | some ad => exact ⟨ad, rfl⟩
          have hkT : k < T.length := by rw [← N1.out]; exact hkn
          obtain ⟨ao', c', hv', _, hs'⟩ := H1'.out.below hBw (Nat.le_refl _)
          obtain ⟨rfl, rfl⟩ : some ad = ao' ∧ c1 = c' := by simp at hv'; exact ⟨by simp [hv'], by simp [hv']⟩
          obtain ⟨t, ht⟩ : ∃ t, t = T[k] := ⟨_, rfl⟩
          have cell := hs' ad rfl k t (by rw [ht]; exact List.getElem?_eq_getElem hkT)
          have hes := encT_succ T k hkT
          rw [← ht] at hes
          have hTk : T.getD k [] = t := by rw [ht]; simp [List.getD, hkT]
          obtain ⟨tl, htl⟩ : ∃ tl, (str t).size = tl := ⟨_, rfl⟩
          have htl2 : t.length = tl := by rw [← htl, str_size]
          have q0 : (0 : Int) ≤ (k : Int) := by omega
          have q1 : (k : Int) < (n1 : Int) := by omega
          by_cases hx : 200 < tl
          · have hxI : (200 : Int) < (tl : Int) := by omega
            have HBW := Lib.hid hBw
            clear hs' hv' hes hW hr hBr hBw hsm ht hTk
            go_wp2_with fail
            go_ret
            exact ⟨rfl, HBW.out⟩
          · have hxI : ¬ (200 : Int) < (tl : Int) := by omega
            have hel := Wi.enc_length (str t).size
            have C := Lib.hid (Wi.wtext_any hW (str t) (by omega))
            have HEND := Lib.hid (show ∀ w', Wi.Wrote wr1 w' w5.heap.size r (A ++ encT (T.take k) ++ Wi.enc (str t).size ++ (str t).data.toList) → WtRel w5 A T (.int .i64 ((k : Int) + 1)) w' from by
              rintro w' ⟨r', hW', hF, hr'⟩
              have e2 : A ++ encT (T.take k) ++ Wi.enc (str t).size ++ (str t).data.toList = A ++ encT (T.take (k + 1)) := by
                rw [hes, str_size, str_list]; simp
              have e3 := congrArg List.length e2
              rw [e2] at hW'
              refine ⟨k + 1, r', by go_num, by omega, hW', ?_, ?_, ?_, ?_⟩
              · rw [← e2, List.length_append, List.length_append, str_list]; omega
              · intro j hj
                by_cases hjk : j = k
                · rw [hjk, hTk]; omega
                · exact hsm j (by omega)
              · intro g hg
                rcases hr' with rfl | ⟨g', rfl, hg'⟩
                · exact hr g hg
                · cases hg; exact Nat.le_trans hBr.size hg'
              · exact hBr.trans (hF.below hBr.size (Nat.le_refl _) hr))
            clear hs' hv' hes hW hr hBr hBw hsm ht hTk hel hlen htl2
            go_wp2_with fail
            refine C.out.mono ?_
            rintro e w2 ⟨rfl, hWr⟩
            have E1 := Lib.hid (HEND.out w2 hWr)
            clear C HEND hWr
            go_wp2_with fail
            exact ⟨E1.out, by simp [intOf]; omega⟩
        · obtain rfl : n1 = k := by omega
          have htk : T.take n1 = T := List.take_of_length_le (by rw [← N1.out]; exact Nat.le_refl _)
          rw [htk] at hW hlen
          have hTl : ∀ t ∈ T, t.length ≤ 200 := by
            intro t ht
            obtain ⟨j, hj, rfl⟩ := List.mem_iff_getElem.1 ht
            have := hsm j (by rw [N1.out]; exact hj)
            simpa [List.getD, hj] using this
          obtain ⟨XS, hXS⟩ : ∃ XS, XS = A ++ encT T := ⟨_, rfl⟩
          rw [← hXS] at hW hlen
          obtain ⟨n, hn⟩ : ∃ n, n = XS.length := ⟨_, rfl⟩
          have hnb : n ≤ 4500 := by omega
          have C := Lib.hid (Wi.bytes_any hW (by omega))
          have HXS := Lib.hid hXS
          have HN := Lib.hid hn
          have HTL := Lib.hid hTl
          have HBW := Lib.hid hBw
          clear hXS hn hTl hBw hBr hr hW hlen hsm htk hk
          go_wp2_with fail
          refine C.out.mono ?_
          rintro e w6 ⟨ao, c9, rfl, own, B6⟩
          clear C
          have B6w := HBW.out.trans (B6.mono HBW.out.size)
          have hw6 := B6w.size
          have bS : Bs w6 (.slice ao n c9) XS := by
            have h' := Bs.ofOwn (w := w6) (xs := XS) own
            rw [HN.out]; exact h'
          rw [← HN.out]
          have zc := zero_hash
          obtain ⟨iI, hiI, hi0, hi1, hi2⟩ := info_parts Tryd.infoI
          have B7 : Below w.heap.size w (w6.alloc (.cells Z73 54)) := B6w.alloc B6w.size _
          have hown := World.ownsRow_made (e := 3) (size := 1) (w6.alloc (.cells Z73 54)) #[] 0 (Nat.le_refl _) (Nat.zero_le _) rfl
          rw [World.size_alloc] at hown
          have hown0 := Lib.hid hown
          clear hown
          have s2 := ((H2'.out.below (B7.alloc B7.size (.cells #[] 3)) (Nat.le_refl _))).src (tx := 38) (e := 3) Tryd.underlying38
          rw [← N2.out] at s2
          have S2 := Lib.hid s2
          have HB7 := Lib.hid B7
          have HBS := Lib.hid bS
          have HB6 := Lib.hid B6
          have h7 := Lib.hid (show HashAt (w6.alloc (.cells Z73 54)) w6.heap.size H0.G H0.B H0.n from ⟨rfl, rfl, heap_alloc_new w6 _⟩)
          clear own s2 B7 bS B6 B6w
          go_wp2_with (at_builtin; refine wpList_append_own_src _ rfl (.tmp 72) (.tmp 73) 38 38 rfl (w6.heap.size + 1) 3 iI (.int .i64 0) 1 8 Tryd.underlying38 hiI hi0 hi1 hi2 rfl _ 0 [] rfl hown0.out _ n2 (ivs Y) rfl S2.out ?b1 ?b2 ?b3 ?next)
          case b1 => unfold maxLen; omega
          case b2 => omega
          case b3 => simp
          case next =>
            rintro v1 w8 ⟨own8, grow8, hat8⟩
            obtain ⟨w7, hw7⟩ : ∃ w7, w7 = w6.alloc (.cells Z73 54) := ⟨_, rfl⟩
            have z7 : w7.heap.size = w6.heap.size + 1 := by rw [hw7]; simp
            have B8 : Below w7.heap.size w7 w8 := by
              rw [← hw7] at grow8
              exact ((Below.refl _ _).alloc (Nat.le_refl _) _).grown grow8 (by simp) (fun k e => by
                have : w6.heap.size + 1 = k := by simpa [Value.ownBlock] using e
                omega)
            rw [← z7] at own8
            have H7 := Lib.hid (show HashAt w7 w6.heap.size H0.G H0.B H0.n by rw [hw7]; exact h7.out)
            have HB7' := Lib.hid (show Below w.heap.size w w7 by rw [hw7]; exact HB7.out)
            have HBS7 := Lib.hid (show Bs w7 (.slice ao n c9) XS by rw [hw7]; exact HBS.out.below ((Below.refl w6.heap.size w6).alloc (Nat.le_refl _) _) (Nat.le_refl _))
            have OWN8 := Lib.hid own8
            have HB67 := Lib.hid (show Below w6.heap.size w6 w7 by rw [hw7]; exact (Below.refl w6.heap.size w6).alloc (Nat.le_refl _) _)
            have HBS6 := HBS
            have HB8 := Lib.hid B8
            have Z7 := Lib.hid z7
            obtain ⟨a8, c8, rfl⟩ := own_sl own8
            clear own8 grow8 hat8 B8 h7 HB7 S2 hown0 HBS HB6 z7 zc hw7
            go_wp2_with (at_builtin; refine wpList_append_own_src _ rfl (.tmp 74) (.tmp 77) 38 38 rfl w7.heap.size 3 iI (.int .i64 0) 1 8 Tryd.underlying38 hiI hi0 hi1 hi2 rfl _ n2 (ivs Y) rfl (OWN8.out.alloc _) _ 1 [.int .i64 (n : Int)] rfl (src_one' Tryd.underlying38 w8 _ rfl) ?b1 ?b2 ?b3 ?next)
            case b1 => unfold maxLen; omega
            case b2 => omega
            case b3 => have := HB8.out.size; simp; omega
            case next =>
              rintro v2 w9 ⟨own9, grow9, hat9⟩
              have B9 : Below w7.heap.size w7 w9 := (HB8.out.alloc HB8.out.size _).grown grow9 (by have := HB8.out.size; simp; omega) (fun g e => (OWN8.out.lt g e).1)
              have ey : ivs Y ++ [.int .i64 (n : Int)] = ivs (Y ++ [(n : Int)]) := by simp [ivs]
              rw [ey] at own9
              have OWN9 := Lib.hid own9
              obtain ⟨a9, c10, rfl⟩ := own_sl own9
              have HB9 := Lib.hid B9
              have H9 := Lib.hid (H7.out.below B9 (by have := Z7.out; omega))
              have HBS9 := Lib.hid (HBS7.out.below B9 (Nat.le_refl _))
              have B69 := Lib.hid (HB67.out.trans (B9.mono HB67.out.size))
              have BW9 := Lib.hid (HB7'.out.trans (B9.mono HB7'.out.size))
              have g69 : w6.heap.size < w9.heap.size := by have := Z7.out; have := B9.size; omega
              obtain ⟨iB, hiB, hb0, hb1, hb2⟩ := info_parts infoBs
              have HH0 := Lib.hid (show (H0).n = 0 from rfl)
              clear own9 grow9 hat9 B9 ey OWN8 HB8 H7 HBS7 HB67
              go_wp2_with fail
              go_loopw [14, 15, 17, 80] (fun v u15 _ u wr => WcRel w6 w9 w6.heap.size XS (n2 + 1) v u15 u wr) (fun _ _ _ u _ => n2 + 1 - (intOf u).toNat)
              case atStart => exact ⟨0, 0, [], rfl, Nat.zero_le _, rfl, Nat.zero_le _, (fun h => by omega), rfl, rfl, (fun p hp => by cases hp), World.ownsRow_nil _ _ _ _, H9.out, Hs.refl _ _⟩
              case round =>
                obtain ⟨wc, rfl⟩ : ∃ wc : World, wc = wr := ⟨_, rfl⟩
                obtain ⟨k, q, P, rfl, hk, rfl, hq, hqm, hPl, hPb, hPs, hPo, hH, hHs⟩ := hrel
                by_cases hkm : k < n2 + 1
                · have own9 := own_keep OWN9.out (w' := wc) (fun g hg => hHs.block g (OWN9.out.lt g hg).2 (by have := (OWN9.out.lt g hg).1; have := Z7.out; omega))
                  obtain ⟨z, hz⟩ : ∃ z, z = (Y ++ [(n : Int)]).getD k 0 := ⟨_, rfl⟩
                  have hlast : k = n2 → z = (n : Int) := fun h => by rw [hz, h, N2.out]; simp [List.getD]
                  have hzk : (ivs (Y ++ [(n : Int)]))[k]? = some (.int .i64 z) := by
                    have hl : k < (Y ++ [(n : Int)]).length := by rw [List.length_append, ← N2.out]; simpa using hkm
                    rw [hz, ivs, List.getElem?_map, List.getD, List.getElem?_eq_getElem hl]
                    rfl
                  obtain ⟨g9, cap9, hv9, hg9, hg9l, cell⟩ := own_cell own9 hzk
                  obtain rfl : a9 = some ⟨g9, 0, none⟩ := by simp at hv9; exact hv9.1
                  have hqn : q ≤ n := by rw [HN.out]; exact hq
                  obtain ⟨nq, hnq⟩ : ∃ nq, nq = n - q := ⟨_, rfl⟩
                  have hnqI : (n : Int) - (q : Int) = (nq : Int) := by omega
                  obtain ⟨mm, hmm⟩ : ∃ mm, (if (nq : Int) < z then (nq : Int) else z) = mm := ⟨_, rfl⟩
                  obtain ⟨d, hd, hdn, hdz⟩ : ∃ d : Nat, (if (0 : Int) < mm then mm else 0) = (d : Int) ∧ d ≤ nq ∧ (z = (n : Int) → d = nq) := by
                    refine ⟨(if (0 : Int) < mm then mm else 0).toNat, ?_, ?_, ?_⟩
                    · split <;> omega
                    · rw [← hmm]; split <;> split <;> omega
                    · intro h; rw [← hmm, h]; split <;> split <;> omega
                  obtain ⟨e0, he0⟩ : ∃ e0, e0 = q + d := ⟨_, rfl⟩
                  have hqe : (q : Int) + (d : Int) = (e0 : Int) := by omega
                  have hsub := Bs.sub HBS6.out HN.out.symm (q := q) (d := d) (by omega)
                  obtain ⟨hnc, hbs⟩ := hsub
                  obtain ⟨aq, haq⟩ : ∃ aq, (if c9 = q then ao else Option.map (fun x => x.add q) ao) = aq := ⟨_, rfl⟩
                  rw [haq] at hbs
                  have hed : e0 - q = d := by omega
                  have hqc : q ≤ c9 := by omega
                  have hec : e0 ≤ c9 := by omega
                  have hqe2 : q ≤ e0 := by omega
                  have hqcI : (q : Int) ≤ (c9 : Int) := by omega
                  have hecI : (e0 : Int) ≤ (c9 : Int) := by omega
                  have hqeI : (q : Int) ≤ (e0 : Int) := by omega
                  have hnI : (n : Int) ≤ 4500 := by omega
                  have hdI : (d : Int) ≤ 4500 := by omega
                  have q0 : (0 : Int) ≤ (k : Int) := by omega
                  have q1 : (k : Int) < (n2 : Int) + 1 := by omega
                  have q2 : k < n2 + 1 := hkm
                  have hqI : (q : Int) ≤ 4500 := by omega
                  have HLAST := Lib.hid (fun h : k = n2 => hdz (hlast h))
                  have HNQ := Lib.hid hnq
                  have HE0 := Lib.hid he0
                  have HBQ := Lib.hid hbs
                  have HPO := Lib.hid hPo
                  have HPB := Lib.hid hPb
                  have HPS := Lib.hid hPs
                  have HPL := Lib.hid hPl
                  have HHC := Lib.hid hH
                  have HHS := Lib.hid hHs
                  have zc9 := hHs.size
                  clear own9 hz hzk hv9 hnq hdz hlast he0 hbs hPo hPb hPs hPl hH hHs hqm hq hnc
                  go_wp2_with (at_builtin; refine wpList_append_own_src _ rfl (.tmp 91) (.tmp 98) 55 55 rfl w9.heap.size 41 iB (.slice none 0 0) 1 24 Tryd.underlying55 hiB hb0 hb1 hb2 rfl _ k (P.map (·.1)) rfl (HPO.out.alloc _) _ 1 [.slice aq d (c9 - q)] rfl (src_one' Tryd.underlying55 wc _ rfl) ?b1 ?b2 ?b3 ?next)
                  case b1 => unfold maxLen; omega
                  case b2 => omega
                  case b3 => simp; omega
                  case next =>
                    rintro v3 wd ⟨own3, grow3, hat3⟩
                    have Bcd : Below w9.heap.size wc wd := ((Below.refl w9.heap.size wc).alloc zc9 _).grown grow3 (by simp; omega) (fun g e => (HPO.out.lt g e).1)
                    have OWN3 := Lib.hid own3
                    have BCD := Lib.hid Bcd
                    clear own3 grow3 hat3 Bcd HPO
                    go_wp2_with fail
                    obtain ⟨W, hW⟩ : ∃ W, W = wd.alloc (.cells #[.slice aq d (c9 - q)] 41) := ⟨_, rfl⟩
                    have zd := BCD.out.size
                    have BcW : Below w9.heap.size wc W := by rw [hW]; exact BCD.out.alloc (by omega) _
                    have hW1 := HHC.out.below BcW g69
                    have B9W : Below w6.heap.size w9 wc := HHS.out.below (by omega) (Nat.le_refl _)
                    have B6W : Below w6.heap.size w6 W := B69.out.trans (B9W.trans (BcW.mono (by omega)))
                    have BwW : Below w.heap.size w W := BW9.out.trans ((B9W.mono hw6).trans (BcW.mono (by omega)))
                    have srcW := HBQ.out.src B6W (Nat.le_refl _) (Nat.le_refl _)
                    have hv := Parts.one (b := w6.heap.size) (show W.heap[wd.heap.size]? = some (.cells #[.slice aq d (c9 - q)] 41 (0, 0)) by rw [hW]; exact heap_alloc_new wd _) (by omega) srcW
                    have TL := HT.out.lt
                    have hpl : ((XS.drop q).take d).length = d := by rw [List.length_take, List.length_drop, ← HN.out]; omega
                    have A := add_any hW1 (HT.out.below BwW (Nat.le_refl _)) (by omega) (by omega) hv (by rw [feed_n, HH0.out, List.length_take, show (bytesOf [(Value.slice aq d (c9 - q), (XS.drop q).take d)]) = (XS.drop q).take d by simp [bytesOf], hpl]; omega) (by simp)
                    rw [show (bytesOf [(Value.slice aq d (c9 - q), (XS.drop q).take d)]) = (XS.drop q).take d by simp [bytesOf], ← feed_append, ← List.take_add, ← HE0.out] at A
                    have HA := Lib.hid A
                    have ownW := (OWN3.out.alloc (.cells #[.slice aq d (c9 - q)] 41))
                    rw [← hW] at ownW
                    have HEND := Lib.hid (show ∀ we, HashAt we w6.heap.size (feed S0 K0 H0 (XS.take e0)).G (feed S0 K0 H0 (XS.take e0)).B (feed S0 K0 H0 (XS.take e0)).n → Hs W we w6.heap.size → WcRel w6 w9 w6.heap.size XS (n2 + 1) v3 (.int .i64 (e0 : Int)) (.int .i64 ((k : Int) + 1)) we from by
                      intro we h1 h2
                      refine ⟨k + 1, e0, P ++ [(.slice aq d (c9 - q), (XS.drop q).take d)], by go_num, by omega, rfl, by rw [← HN.out]; omega, ?_, by rw [List.length_append, HPL.out]; rfl, ?_, ?_, ?_, h1, ?_⟩
                      · intro hk2
                        have := HLAST.out (by omega)
                        rw [← HN.out]
                        have := HNQ.out
                        omega
                      · rw [show bytesOf (P ++ [(Value.slice aq d (c9 - q), (XS.drop q).take d)]) = bytesOf P ++ (XS.drop q).take d by simp [bytesOf], HPB.out, HE0.out, List.take_add]
                      · intro p hp
                        rcases List.mem_append.1 hp with hp | hp
                        · exact HPS.out p hp
                        · obtain rfl : p = _ := by simpa using hp
                          exact HBQ.out
                      · have h3 := own_keep ownW (w' := we) (fun g hg => h2.block g (ownW.lt g hg).2 (by have := (ownW.lt g hg).1; omega))
                        simpa using h3
                      · have hs := HHS.out
                        exact ⟨h2.os.trans (BcW.os.trans hs.os), h2.tape.trans (BcW.tape.trans hs.tape), h2.output.trans (BcW.output.trans hs.output), Nat.le_trans hs.size (Nat.le_trans BcW.size h2.size), fun g hg hne => (h2.block g (by have := BcW.size; omega) hne).trans ((BcW.block g hg).trans (hs.block g hg hne))⟩)
                    rw [← hW]
                    clear A ownW hpl hv srcW BwW B6W B9W hW1 BcW hW TL
                    refine HA.out.mono ?_
                    rintro e we ⟨rfl, hWe, hsWe⟩
                    have E1 := Lib.hid (HEND.out we hWe hsWe)
                    clear HEND hWe hsWe HA
                    go_wp2_with fail
                    exact ⟨E1.out, by simp [intOf]; omega⟩
                · obtain rfl : k = n2 + 1 := by omega
                  have hqX := hqm rfl
                  subst hqX
                  rw [List.take_length] at hH hPb
                  have B9c : Below w6.heap.size w9 wc := hHs.below (by omega) (Nat.le_refl _)
                  have B6c : Below w6.heap.size w6 wc := B69.out.trans B9c
                  have Bwc : Below w.heap.size w wc := BW9.out.trans (B9c.mono hw6)
                  have bSc := HBS6.out.below B6c (Nat.le_refl _)
                  have Tc := HT.out.below Bwc (Nat.le_refl _)
                  rw [← hPl] at hPo
                  have pc := Pt.ofOwn hPo (fun p hp => (hPs p hp).below B6c (Nat.le_refl _))
                  obtain ⟨a14, c14, rfl⟩ := own_sl hPo
                  have SM := Lib.hid (sum_any hH Tc (by rw [feed_n, HH0.out, ← HN.out]; omega))
                  have HPT := Lib.hid pc
                  have HBSC := Lib.hid bSc
                  have HTC := Lib.hid Tc
                  have HBWC := Lib.hid Bwc
                  have HPB := Lib.hid hPb
                  have HPL := Lib.hid hPl
                  rw [← HN.out]
                  rw [show ((n2 + 1 : Nat) : Int) = (n2 : Int) + 1 by omega]
                  clear hH hPb hPs hPo hHs B9c B6c Bwc bSc Tc pc hPl hqm hq HBS6 HBS9 HB9 H9 OWN9
                  go_wp2_with fail
                  refine SM.out.mono ?_
                  rintro e w11 ⟨rfl, B11⟩
                  rw [show shaOf S0 K0 (feed S0 K0 H0 XS) = shaL S0 K0 XS from rfl]
                  have B11b := B11.alloc B11.size (.cells #[.slice ao n c9] 41)
                  have O := of_any (Pt.one (heap_alloc_new w11 (.cells #[.slice ao n c9] 41)) (HBSC.out.below B11b (Nat.le_refl _))) (HTC.out.below B11b (Nat.le_refl _)) (by simp [bytesOf, ← HN.out]; omega) (by simp)
                  rw [show bytesOf [(Value.slice ao n c9, XS)] = XS by simp [bytesOf]] at O
                  have HO := Lib.hid O
                  have HB11 := Lib.hid B11
                  have hDl := shaL_length S0 K0 XS
                  have nqD : ∀ W, (binOp .neq 43 (.agg (bvs (shaL S0 K0 XS)).toArray) (.agg (bvs (shaL S0 K0 XS)).toArray)).run Tryd.prog W = .ok (.bool false) W := fun W => by
                    rw [neq_sum _ _ hDl hDl]; simp
                  clear SM O B11 B11b hDl
                  obtain ⟨D, hD⟩ : ∃ D, D = shaL S0 K0 XS := ⟨_, rfl⟩
                  rw [← hD] at nqD ⊢
                  have HDD := Lib.hid hD
                  clear hD
                  go_wp2_with fail
                  refine HO.out.mono ?_
                  rintro e w12 ⟨rfl, B12⟩
                  rw [← HDD.out]
                  have B12b := (HB11.out.alloc HB11.out.size (.cells #[.slice ao n c9] 41)).trans (B12.mono (HB11.out.alloc HB11.out.size (.cells #[.slice ao n c9] 41)).size)
                  have C1 := crc_any (HPT.out.below B12b (Nat.le_refl _)) (by rw [HPL.out]; omega) (fun p hp => by have := part_le hp; rw [HPB.out, ← HN.out] at this; omega)
                  rw [HPB.out] at C1
                  have B12c := B12b.alloc B12b.size (.cells #[.slice ao n c9] 41)
                  have C2 := crc_any (Pt.one (heap_alloc_new w12 (.cells #[.slice ao n c9] 41)) (HBSC.out.below B12c (Nat.le_refl _))) (by simp) (by simp [← HN.out]; omega)
                  rw [show bytesOf [(Value.slice ao n c9, XS)] = XS by simp [bytesOf]] at C2
                  obtain ⟨w13, hw13⟩ : ∃ w13, w13 = w12.alloc (.cells #[.slice ao n c9] 41) := ⟨_, rfl⟩
                  rw [← hw13] at B12c C2
                  have L1 := link_any (pv := List.replicate 32 0) rfl (HBSC.out.below B12c (Nat.le_refl _)) (HTC.out.below B12c (Nat.le_refl _)) (by rw [← HN.out]; omega)
                  rw [show (bvs (List.replicate 32 0)).toArray = _ from Z32_eq] at L1
                  have HC1 := Lib.hid C1
                  have HC2 := Lib.hid C2
                  have HL1 := Lib.hid L1
                  have HB13 := Lib.hid B12c
                  have HW13 := Lib.hid hw13
                  obtain ⟨E, hE⟩ : ∃ E, E = shaL S0 K0 (List.replicate 32 0 ++ XS) := ⟨_, rfl⟩
                  have hEl : E.length = 32 := by rw [hE]; exact shaL_length _ _ _
                  have nqE : ∀ W, (binOp .neq 43 (.agg (bvs E).toArray) (.agg (bvs E).toArray)).run Tryd.prog W = .ok (.bool false) W := fun W => by
                    rw [neq_sum _ _ hEl hEl]; simp
                  have HE := Lib.hid hE
                  have HEL := Lib.hid hEl
                  clear C1 C2 L1 B12b B12c hw13 B12 HO HDD hE hEl
                  go_wp2_with fail
                  refine HC1.out.mono ?_
                  rintro e w' ⟨rfl, rfl⟩
                  clear HC1
                  generalize crcOf XS = cq at *
                  go_wp2_with fail
                  rw [← HW13.out]
                  refine HC2.out.mono ?_
                  rintro e w' ⟨rfl, rfl⟩
                  clear HC2
                  go_wp2_with fail
                  refine HL1.out.mono ?_
                  rintro e w14 ⟨rfl, B14⟩
                  rw [← HE.out]
                  have B14b := HB13.out.trans (B14.mono HB13.out.size)
                  have B14c := B14b.alloc B14b.size (.cells #[.slice ao n c9] 41)
                  have CH := chain_any (first := List.replicate 32 0) rfl (Pt.one (heap_alloc_new w14 (.cells #[.slice ao n c9] 41)) (HBSC.out.below B14c (Nat.le_refl _))) (HTC.out.below B14c (Nat.le_refl _)) (by simp) (by simp [← HN.out]; omega)
                  rw [show (bvs (List.replicate 32 0)).toArray = _ from Z32_eq] at CH
                  have HCH := Lib.hid CH
                  have HB14 := Lib.hid B14c
                  clear CH B14b B14c B14 HL1 HW13 HB13
                  go_wp2_with fail
                  refine HCH.out.mono ?_
                  rintro e w15 ⟨g, rfl, hg, r15, B15⟩
                  rw [show sumsTo S0 K0 (List.replicate 32 0) (List.map (·.2) [(Value.slice ao n c9, XS)]) (List.length [(Value.slice ao n c9, XS)]) = E from (chain_one XS).trans HE.out.symm] at r15
                  have R15 := Lib.hid r15
                  have HB15 := Lib.hid (HBWC.out.trans ((HB14.out.trans (B15.mono HB14.out.size)).mono HBWC.out.size))
                  have HBS15 := Lib.hid (HBSC.out.below (HB14.out.trans (B15.mono HB14.out.size)) (Nat.le_refl _))
                  have szE := Lib.hid (show (Tryd.prog.info? 43).map (·.size) = some (bvs E).length by rw [bvs_length, HEL.out]; kernel_rfl)
                  have RE := Lib.hid (show w15.rangeAt g 0 (bvs E) from fun j v hv => by
                    rw [Nat.zero_add, cell_of_row w15 g j _ _ _ R15.out]
                    simpa using hv)
                  clear hg r15 B15 HCH HB14 HB11 HTC HPT HPB HPL
                  go_wp2_with (refine wpList_load_rowW rfl 43 (.tmp 133) rfl g rfl (bvs E) _ RE.out Tryd.underlying43 rfl szE.out ?_)
                  obtain ⟨aoB, cB, hvB, _, hnoB, hsB⟩ := HBS15.out
                  obtain ⟨rfl, rfl⟩ : ao = aoB ∧ c9 = cB := by rw [← HN.out] at hvB; simpa using hvB
                  refine (Wi.read_any ao n c9 XS HN.out.symm (fun h => by rw [HN.out]; exact hnoB h) (fun a ha j u hu => hsB a ha j u hu) (by omega)).mono ?_
                  rintro e w16 ⟨b, r16, rfl, hRd, B16, hb, hr16⟩
                  have HRD := Lib.hid hRd
                  have HB16 := Lib.hid B16
                  have hz15 := HB15.out.size
                  have hXl : XS.length ≤ 140737488355328 := by rw [← HN.out]; omega
                  have HXL := Lib.hid hXl
                  clear hRd B16 hvB hnoB hsB HBS15 RE R15 szE nqD nqE HEL HE hXl HBSC HT HY NO2
                  go_wp2_with fail
                  go_loopw [20, 141] (fun _ u wr => WqRel w15 b r16 XS Z u wr) (fun _ u _ => n0 - (intOf u).toNat)
                  case atStart => exact ⟨0, rfl, Nat.zero_le _, HRD.out, HB16.out⟩
                  case round =>
                    clear HRD HB16
                    obtain ⟨wx, rfl⟩ : ∃ wx : World, wx = wr := ⟨_, rfl⟩
                    obtain ⟨k, rfl, hk, hRd, hBr⟩ := hrel
                    rw [← N0.out] at hk
                    by_cases hkn : k < n0
                    · obtain ⟨ad, rfl⟩ : ∃ ad, a0 = some ad := by
                        cases a0 with
                        | none => have := NO0.out rfl; have h2 := N0.out; rw [this] at h2; simp at h2; omega
                        | some ad => exact ⟨ad, rfl⟩
                      have hkZ : k < Z.length := by rw [← N0.out]; exact hkn
                      obtain ⟨ao', c', hv', _, hs'⟩ := H0'.out.below (HB15.out.trans (hBr.mono hz15)) (Nat.le_refl _)
                      obtain ⟨rfl, rfl⟩ : some ad = ao' ∧ c0 = c' := by simp at hv'; exact ⟨by simp [hv'], by simp [hv']⟩
                      have hdr := encs_drop Z (encT T) k hkZ
                      have hes := encs_succ Z k hkZ
                      obtain ⟨z, hz⟩ : ∃ z, z = Z[k] := ⟨_, rfl⟩
                      have cell := hs' ad rfl k z (by rw [hz]; exact List.getElem?_eq_getElem hkZ)
                      have hzb := HZ.out z (by rw [hz]; exact List.getElem_mem _)
                      rw [← hz] at hdr hes
                      rw [← HA.out, ← HXS.out] at hdr
                      have I := Wi.rint_any hRd HXL.out
                      rw [Wi.rn_fwd hdr (Wi.zig_lt hzb.1 hzb.2) (by have := Wi.zig_lt hzb.1 hzb.2; omega)] at I
                      have HI := Lib.hid I
                      have HEND := Lib.hid (show ∀ w', Wi.Rd w' b r16 XS ((encs (Z.take k)).length + (Wi.enc (Wi.zig z)).length) 0 → Wi.Fr wx w' b none → WqRel w15 b r16 XS Z (.int .i64 ((k : Int) + 1)) w' from by
                        intro w' h1 h2
                        refine ⟨k + 1, by go_num, by omega, ?_, hBr.trans (h2.below hBr.size hb (fun g e => by cases e))⟩
                        rw [hes, List.length_append]
                        exact h1)
                      have q0 : (0 : Int) ≤ (k : Int) := by omega
                      have q1 : (k : Int) < (n0 : Int) := by omega
                      clear hs' hv' hdr hes hz hzb I hRd hBr
                      go_wp2_with fail
                      refine HI.out.mono ?_
                      rintro e wy ⟨rfl, hR2, hF2⟩
                      dsimp only at hR2 ⊢
                      rw [Wi.zag_zig]
                      have E1 := Lib.hid (HEND.out wy hR2 hF2)
                      clear HEND hR2 hF2 HI
                      go_wp2_with fail
                      exact ⟨E1.out, by simp [intOf]; omega⟩
                    · obtain rfl : n0 = k := by omega
                      have htk : Z.take n0 = Z := List.take_of_length_le (by rw [← N0.out]; exact Nat.le_refl _)
                      rw [htk, ← HA.out] at hRd
                      have HRD := Lib.hid hRd
                      have HBR := Lib.hid hBr
                      clear hRd hBr htk hk
                      go_wp2_with fail
                      go_loopw [22, 152] (fun _ u wr => WsRel w15 b r16 XS A T u wr) (fun _ u _ => n1 - (intOf u).toNat)
                      case atStart => exact ⟨0, rfl, Nat.zero_le _, by simpa [encT] using HRD.out, HBR.out⟩
                      case round =>
                        clear HRD HBR
                        obtain ⟨wx, rfl⟩ : ∃ wx : World, wx = wr := ⟨_, rfl⟩
                        obtain ⟨k, rfl, hk, hRd, hBr⟩ := hrel
                        rw [← N1.out] at hk
                        by_cases hkn : k < n1
                        · obtain ⟨ad, rfl⟩ : ∃ ad, a1 = some ad := by
                            cases a1 with
                            | none => have := NO1.out rfl; have h2 := N1.out; rw [this] at h2; simp at h2; omega
                            | some ad => exact ⟨ad, rfl⟩
                          have hkT : k < T.length := by rw [← N1.out]; exact hkn
                          obtain ⟨ao', c', hv', _, hs'⟩ := H1'.out.below (HB15.out.trans (hBr.mono hz15)) (Nat.le_refl _)
                          obtain ⟨rfl, rfl⟩ : some ad = ao' ∧ c1 = c' := by simp at hv'; exact ⟨by simp [hv'], by simp [hv']⟩
                          have hdr := encT_drop A T k hkT
                          have hes := encT_succ T k hkT
                          obtain ⟨t, ht⟩ : ∃ t, t = T[k] := ⟨_, rfl⟩
                          have cell := hs' ad rfl k t (by rw [ht]; exact List.getElem?_eq_getElem hkT)
                          have htl := HTL.out t (by rw [ht]; exact List.getElem_mem _)
                          rw [← ht] at hdr hes
                          rw [← HXS.out] at hdr
                          have I := Wi.rtext_any hRd HXL.out
                          rw [Wi.rt_fwd hdr (by omega)] at I
                          have HI := Lib.hid I
                          have HEND := Lib.hid (show ∀ w', Wi.Rd w' b r16 XS ((A ++ encT (T.take k)).length + (Wi.enc t.length).length + t.length) 0 → Wi.Fr wx w' b none → WsRel w15 b r16 XS A T (.int .i64 ((k : Int) + 1)) w' from by
                            intro w' h1 h2
                            refine ⟨k + 1, by go_num, by omega, ?_, hBr.trans (h2.below hBr.size hb (fun g e => by cases e))⟩
                            have e5 : (A ++ encT (T.take (k + 1))).length = (A ++ encT (T.take k)).length + (Wi.enc t.length).length + t.length := by
                              rw [hes, List.length_append, List.length_append, List.length_append, List.length_append]; omega
                            rw [e5]
                            exact h1)
                          have q0 : (0 : Int) ≤ (k : Int) := by omega
                          have q1 : (k : Int) < (n1 : Int) := by omega
                          clear hs' hv' hdr hes ht htl I hRd hBr
                          go_wp2_with fail
                          refine HI.out.mono ?_
                          rintro e wy ⟨rfl, hR2, hF2⟩
                          dsimp only at hR2 ⊢
                          rw [show Wi.str t = str t from rfl]
                          have E1 := Lib.hid (HEND.out wy hR2 hF2)
                          clear HEND hR2 hF2 HI
                          go_wp2_with fail
                          exact ⟨E1.out, by simp [intOf]; omega⟩
                        · obtain rfl : n1 = k := by omega
                          have htk : T.take n1 = T := List.take_of_length_le (by rw [← N1.out]; exact Nat.le_refl _)
                          rw [htk, ← HXS.out] at hRd
                          have I := Wi.end_any hRd HXL.out
                          rw [show Wi.rend XS XS.length 0 = 0 by simp [Wi.rend, Wi.rl]] at I
                          have HI := Lib.hid I
                          have HBR := Lib.hid (HB15.out.trans (hBr.mono hz15))
                          clear I hRd hBr htk hk
                          go_wp2_with fail
                          refine HI.out.mono ?_
                          rintro e wy ⟨rfl, nn, rfl⟩
                          have HBY := Lib.hid (below_drewN HBR.out nn)
                          go_wp2_with fail
                          go_ret
                          exact ⟨rfl, HBY.out⟩
theorem wb_any {w : World} {v0 v1 v2 : Value} {Z Y : List Int} {T : List (List UInt8)} (h0 : Its w v0 Z) (h1 : Tts w v1 T) (h2 : Its w v2 Y) (hZ : ∀ z ∈ Z, -9223372036854775808 ≤ z ∧ z ≤ 9223372036854775807)
    (hY : ∀ z ∈ Y, -9223372036854775808 ≤ z ∧ z ≤ 9223372036854775807) (ht : Tables w S0 K0) :
    Calls Tryd.prog 5 #[v0, v1, v2] w fun e w' => e = .returned (.bool true) ∧ Below w.heap.size w w' := by
  by_cases hL : 30 < Z.length ∨ (Z.length ≤ 30 ∧ 20 < T.length) ∨ (Z.length ≤ 30 ∧ T.length ≤ 20 ∧ 40 < Y.length)
  · exact wb_long h0 h1 h2 hZ hY ht hL
  · exact wb_short h0 h1 h2 hZ hY ht (by omega) (by omega) (by omega)
end Go.Proofs.YtejbookaflnpeabDoor
