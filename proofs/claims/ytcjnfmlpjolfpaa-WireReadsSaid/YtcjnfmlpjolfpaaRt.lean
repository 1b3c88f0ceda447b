/- What a Reader's calls Int, Count, Text, Left and End leave, and what Read makes; a Writer's Text. -/
import Derived.Test.YtcjnfmlpjolfpaaRn
namespace Go.Proofs.Ytcjnfmlpjolfpaa
open Go Go.RowKit
set_option linter.unusedVariables false

theorem dg_lt (f : Nat) : ∀ (xs : List UInt8) (k : Nat) (err : Int) (i n : Nat), n < 18446744073709551616 → (dg f xs k err i n).1 < 18446744073709551616 := by
  induction f with
  | zero => intro xs k err i n h; exact h
  | succ f ih =>
    intro xs k err i n h
    dsimp only [dg]
    generalize (if (bad i (rb xs k err).1.toNat && (rb xs k err).2.2 == 0) = true then (8 : Int) else (rb xs k err).2.2) = E
    by_cases c : (decide ((rb xs k err).1.toNat < 128) || E != 0) = true
    · rw [if_pos c]; exact Nat.mod_lt _ (Nat.zero_lt_succ _)
    · rw [if_neg c]; exact ih _ _ _ _ _ (Nat.mod_lt _ (Nat.zero_lt_succ _))
theorem fe_ne (e : Int) : fe e 2 ≠ 0 := by unfold fe; split <;> omega
theorem rn_of (xs : List UInt8) (k : Nat) (err : Int) (most : Nat) : (rn xs k err most).1 = (dg 10 xs k err 0 0).1 ∧ (dg 10 xs k err 0 0).1 ≤ most ∨ (rn xs k err most).1 = 0 := by
  dsimp only [rn]
  by_cases h : most < (dg 10 xs k err 0 0).1
  · rw [if_pos h, if_neg (fe_ne _)]; exact Or.inr rfl
  · rw [if_neg h]
    by_cases e : (dg 10 xs k err 0 0).2.2 = 0
    · rw [if_pos e]; exact Or.inl ⟨rfl, by omega⟩
    · rw [if_neg e]; exact Or.inr rfl
theorem rn_lt (xs : List UInt8) (k : Nat) (err : Int) (most : Nat) : (rn xs k err most).1 < 18446744073709551616 := by
  have := dg_lt 10 xs k err 0 0 (Nat.zero_lt_succ _)
  rcases rn_of xs k err most with ⟨h, _⟩ | h <;> omega
theorem rn_le (xs : List UInt8) (k : Nat) (err : Int) (most : Nat) : (rn xs k err most).1 ≤ most := by
  rcases rn_of xs k err most with ⟨h, _⟩ | h <;> omega

def IntPost (w : World) (b : Nat) (r : Option Nat) (xs : List UInt8) (X : Nat × Nat × Int) (e : Ending) (w' : World) : Prop :=
  e = .returned (.int .i64 (zag X.1)) ∧ Rd w' b r xs X.2.1 X.2.2 ∧ Fr w w' b none
theorem rint_any {w : World} {b : Nat} {r : Option Nat} {xs : List UInt8} {k : Nat} {err : Int} (h : Rd w b r xs k err) (hsz : xs.length ≤ 140737488355328) :
    Calls Try.prog 21 #[.pointer (some ⟨b, 0, none⟩)] w (IntPost w b r xs (rn xs k err 18446744073709551615)) := by
  have N := rnum_any h hsz 18446744073709551615 (by decide)
  have hl := rn_lt xs k err 18446744073709551615
  generalize rn xs k err 18446744073709551615 = X at N hl ⊢
  have U := fun W => unfold_any X.1 W hl
  have HN := Lib.hid N
  have HU := Lib.hid U
  clear N U hl
  go_enter Try.func21, Try.ntmps21
  go_wp2_with fail
  refine HN.out.mono ?_
  rintro e w2 ⟨rfl, hR2, hF2⟩
  go_wp2_with fail
  refine (HU.out _).mono ?_
  rintro e w3 ⟨rfl, rfl⟩
  go_wp2_with fail
  go_ret
  exact ⟨rfl, hR2, hF2⟩

def CountPost (w : World) (b : Nat) (r : Option Nat) (xs : List UInt8) (X : Nat × Nat × Int) (e : Ending) (w' : World) : Prop :=
  e = .returned (.int .i64 (X.1 : Int)) ∧ Rd w' b r xs X.2.1 X.2.2 ∧ Fr w w' b none
theorem rcount_any {w : World} {b : Nat} {r : Option Nat} {xs : List UInt8} {k : Nat} {err : Int} (h : Rd w b r xs k err) (hsz : xs.length ≤ 140737488355328) :
    Calls Try.prog 32 #[.pointer (some ⟨b, 0, none⟩)] w (CountPost w b r xs (rn xs k err 4096)) := by
  have N := rnum_any h hsz 4096 (by decide)
  have hl := rn_le xs k err 4096
  generalize rn xs k err 4096 = X at N hl ⊢
  have HN := Lib.hid N
  clear N
  go_enter Try.func32, Try.ntmps32
  go_wp2_with fail
  refine HN.out.mono ?_
  rintro e w2 ⟨rfl, hR2, hF2⟩
  go_wp2_with fail
  go_ret
  exact ⟨rfl, hR2, hF2⟩

/-- A slice that reads as bytes, made a string. -/
def str (ys : List UInt8) : ByteArray := ⟨ys.toArray⟩
theorem str_of_nums (ys : List UInt8) : strOfNums (ys.map fun b => (b.toNat : Int)) = str ys := by
  simp [strOfNums, str, Function.comp_def]
theorem run_convert_sl {w : World} {ao : Option Addr} {n c : Nat} {ys : List UInt8} (hn : ys.length = n) (hno : ao = none → ys = []) (hs : ∀ a, ao = some a → ∀ j u, (bvs ys)[j]? = some u → w.cell? (a.add j) = some u) :
    (convert 24 9 (.slice ao n c)).run Try.prog w = .ok (.string (str ys)) w := by
  cases ao with
  | none =>
    obtain rfl := hno rfl
    subst hn
    exact run_convert_bytes_nil w 24 5 Try.underlying24 Try.underlying5 _ _ 9 Try.underlying9
  | some a =>
    have hl : (loadCells a n).run Try.prog w = .ok ((ys.map fun b => (b.toNat : Int)).map (Value.int .u8)).toArray w := by
      have := run_loadCells_list (P := Try.prog) w a (bvs ys) (hs a rfl)
      rw [bvs_length, hn] at this
      rw [this]
      simp [bvs, bv, Function.comp_def]
    rw [run_convert_bytes_string w 24 9 5 _ n c Try.underlying24 Try.underlying5 Try.underlying9, run_bytesToString w _ n c _ hl, foldl_push_bytes, ← str_of_nums]
    simp [strOfNums, ByteArray.empty, ByteArray.emptyWithCapacity]
    rfl

/-- The next text. -/
def rt (xs : List UInt8) (k : Nat) (err : Int) : List UInt8 × Nat × Int :=
  nx xs (rn xs k err 4096).2.1 (rn xs k err 4096).2.2 (rn xs k err 4096).1
def TextPost (w : World) (b : Nat) (r : Option Nat) (xs : List UInt8) (X : List UInt8 × Nat × Int) (e : Ending) (w' : World) : Prop :=
  e = .returned (.string (str X.1)) ∧ Rd w' b r xs X.2.1 X.2.2 ∧ Fr w w' b none
theorem rtext_any {w : World} {b : Nat} {r : Option Nat} {xs : List UInt8} {k : Nat} {err : Int} (h : Rd w b r xs k err) (hsz : xs.length ≤ 140737488355328) :
    Calls Try.prog 23 #[.pointer (some ⟨b, 0, none⟩)] w (TextPost w b r xs (rt xs k err)) := by
  have N := rnum_any h hsz 4096 (by decide)
  have hl := rn_le xs k err 4096
  unfold rt
  generalize rn xs k err 4096 = X at N hl ⊢
  obtain ⟨n, k1, e1⟩ := X
  dsimp only at hl ⊢
  have HX : ∀ W, Rd W b r xs k1 e1 → Calls Try.prog 35 #[.pointer (some ⟨b, 0, none⟩), .int .i64 (n : Int)] W fun e w' => ∃ v, e = .returned v ∧ Sl w' v (nx xs k1 e1 n).1 ∧ Rd w' b r xs (nx xs k1 e1 n).2.1 (nx xs k1 e1 n).2.2 ∧ Fr W w' b none :=
    fun W hW => next_any hW n (by omega) hsz
  generalize nx xs k1 e1 n = Y at HX ⊢
  have HN := Lib.hid N
  have HH := Lib.hid HX
  clear N HX
  go_enter Try.func23, Try.ntmps23
  go_wp2_with fail
  refine HN.out.mono ?_
  rintro e w2 ⟨rfl, hR2, hF2⟩
  dsimp only at hR2 ⊢
  go_wp2_with fail
  refine (HH.out _ hR2).mono ?_
  rintro e w3 ⟨v, rfl, ⟨ao, c, rfl, hno, hs⟩, hR3, hF3⟩
  have hcv := run_convert_sl (n := Y.1.length) (c := c) rfl hno hs
  go_wp2
  go_ret
  exact ⟨rfl, hR3, hF2.trans (Or.inl rfl) hF3⟩

/-- How many are left. -/
def rl (xs : List UInt8) (k : Nat) (err : Int) : Nat := if err = 0 then xs.length - k else 0
theorem left_any {w : World} {b : Nat} {r : Option Nat} {xs : List UInt8} {k : Nat} {err : Int} (h : Rd w b r xs k err) (hsz : xs.length ≤ 140737488355328) :
    Calls Try.prog 26 #[.pointer (some ⟨b, 0, none⟩)] w fun e w' => e = .returned (.int .i64 (rl xs k err : Int)) ∧ ∃ n, w' = w.drewN n := by
  unfold rl
  by_cases he : err = 0
  · subst he; exact left_ok h hsz
  · rw [if_neg he]
    refine (left_err h he).mono ?_
    rintro e w' ⟨rfl, rfl⟩
    exact ⟨rfl, 0, rfl⟩
/-- What End tells. -/
def rend (xs : List UInt8) (k : Nat) (err : Int) : Int := if 0 < rl xs k err then 8 else err
theorem end_any {w : World} {b : Nat} {r : Option Nat} {xs : List UInt8} {k : Nat} {err : Int} (h : Rd w b r xs k err) (hsz : xs.length ≤ 140737488355328) :
    Calls Try.prog 25 #[.pointer (some ⟨b, 0, none⟩)] w fun e w' => e = .returned (.int .i64 (rend xs k err)) ∧ ∃ n, w' = w.drewN n := by
  have L := left_any h hsz
  unfold rend
  generalize rl xs k err = m at L ⊢
  have HL := Lib.hid L
  clear L
  by_cases hm : 0 < m
  · rw [if_pos hm]
    have hmi : (0 : Int) < (m : Int) := by omega
    go_enter Try.func25, Try.ntmps25
    go_wp2_with fail
    refine HL.out.mono ?_
    rintro e w2 ⟨rfl, n, rfl⟩
    go_wp2_with fail
    go_ret
    exact ⟨rfl, n, rfl⟩
  · rw [if_neg hm]
    have hmi : ¬ (0 : Int) < (m : Int) := by omega
    obtain ⟨ax, cx, c0, c1, c2, f1, f2, _⟩ := h.cells
    go_enter Try.func25, Try.ntmps25
    go_wp2_with fail
    refine HL.out.mono ?_
    rintro e w2 ⟨rfl, n, rfl⟩
    go_wp2
    go_ret
    exact ⟨rfl, n, rfl⟩

/-- What Read makes. -/
theorem read_any {w : World} (ao : Option Addr) (m c : Nat) (ys : List UInt8) (hl : ys.length = m) (hno : ao = none → m = 0)
    (hsrc : ∀ a, ao = some a → ∀ j u, (bvs ys)[j]? = some u → w.cell? (a.add j) = some u) (hsz : m ≤ 140737488355328) :
    Calls Try.prog 18 #[.slice ao m c] w fun e w' => ∃ b r, e = .returned (.pointer (some ⟨b, 0, none⟩)) ∧ Rd w' b r ys 0 0 ∧ Below w.heap.size w w' ∧ w.heap.size ≤ b ∧ (∀ g, r = some g → w.heap.size ≤ g) := by
  obtain ⟨i0, hi, hz0, hz1, hz2⟩ := info_parts Try.info5
  have S : Src Try.prog 1 24 (.slice ao m c) m (bvs ys) w := Src.any w (e' := 5) Try.underlying24 ao m c (bvs ys) (by rw [bvs_length, hl, Nat.mul_one]) hno hsrc (bvs_one ys)
  go_enter Try.func18, Try.ntmps18
  go_wp2_with (at_builtin; refine wpList_append_own_src _ rfl (.const (.slice none 0 0)) (.tmp 3) 24 24 rfl w.heap.size 5 i0 (.int .u8 0) 1 1 Try.underlying24 hi hz0 hz1 hz2 rfl _ 0 [] rfl (World.ownsRow_nil _ _ _ _) _ m (bvs ys) rfl S ?b1 ?b2 (Nat.le_refl _) ?next)
  case b1 => unfold maxLen; omega
  case b2 => omega
  case next =>
    rintro v' w1 ⟨hown1, hgrow, hat⟩
    obtain ⟨ao', c', rfl⟩ := own_slice hown1
    have hB : Below w.heap.size w w1 := (Below.refl _ _).grown hgrow (Nat.le_refl _) (fun k h => by cases h)
    clear S hsrc
    go_wp2
    go_ret
    have hb := hB.size
    refine ⟨w1.heap.size, _, rfl, ⟨Nat.zero_le _, _, heap_alloc_new w1 _, ?_, rfl⟩, hB.alloc hb _, hb, ?_⟩
    · rw [hl]
      obtain ⟨q1, q2⟩ := hown1.alloc (.cells #[.slice ao' m c', .int .i64 0, .int .i64 0] 70)
      refine ⟨q1, ?_⟩
      rcases q2 with q2 | ⟨g, cap, cur, e1, _, rest⟩
      · exact Or.inl q2
      · exact Or.inr ⟨g, cap, cur, e1, Nat.zero_le _, rest⟩
    · intro g hg
      exact (hown1.lt g hg).1

theorem byteCells_bvs (s : ByteArray) : byteCells s = bvs s.data.toList := rfl
set_option maxRecDepth 100000 in
set_option maxHeartbeats 1600000 in
/-- A Writer's Text. -/
theorem wtext_any {w : World} {b : Nat} {r : Option Nat} {xs : List UInt8} (hw : Wr w b r xs) (s : ByteArray) (hsz : xs.length + 10 + s.size ≤ 140737488355328) :
    Calls Try.prog 13 #[.pointer (some ⟨b, 0, none⟩), .string s] w fun e w' => e = .returned (.tuple #[]) ∧ Wrote w w' b r (xs ++ enc s.size ++ s.data.toList) := by
  obtain ⟨i0, hi, hz0, hz1, hz2⟩ := info_parts Try.info5
  have hel := enc_length s.size
  have hs63 : s.size ≤ 9223372036854775807 := by omega
  have hlen : (xs ++ enc s.size).length ≤ xs.length + 10 := by simp; exact hel
  have N := num_one hw _ rfl _ s.size rfl (by omega) (by omega)
  generalize xs ++ enc s.size = zs at hlen N ⊢
  have HN := Lib.hid N
  clear N hel
  go_enter Try.func13, Try.ntmps13
  go_wp2_with fail
  refine HN.out.mono ?_
  rintro e w2 ⟨rfl, r2, hW2, hF2, hr2⟩
  obtain ⟨ax, cx, h0, f0, hown, hr⟩ := hW2.cell
  have hne := hW2.ne
  have hbl := hW2.lt
  have S : Src Try.prog 1 9 (.string s) s.size (bvs s.data.toList) w2 := byteCells_bvs s ▸ Src.ofString w2 Try.underlying9 s
  go_wp2_with (at_builtin; refine wpList_append_own_src _ rfl (.tmp 14) (.tmp 15) 24 9 rfl 0 5 i0 (.int .u8 0) 1 1 Try.underlying24 hi hz0 hz1 hz2 rfl _ zs.length (bvs zs) rfl hown _ s.size (bvs s.data.toList) rfl S ?b1 ?b2 (Nat.zero_le _) ?next)
  case b1 => unfold maxLen; omega
  case b2 => omega
  case next =>
    rintro v' w3 ⟨hown1, hgrow, hat⟩
    obtain ⟨ao', c', rfl⟩ := own_slice hown1
    rw [hr] at hgrow hat
    have hb1 : w3.heap[b]? = w2.heap[b]? := hgrow.block b hbl (fun e => hne e.symm)
    have k0 := (World.cell?_of_block (a := ⟨b, 0, none⟩) hb1).trans h0
    have e0 := (World.frozen?_of_block (a := ⟨b, 0, none⟩) hb1).trans f0
    clear S h0 f0 hown
    go_wp2
    go_end0
    have hn' : (Value.slice ao' (zs.length + s.size) c').ownBlock ≠ some b := by
      rcases hat with h | h
      · rw [h]; exact hne
      · rw [h]; intro e; cases e; omega
    obtain ⟨v0, hv0, _⟩ := hW2
    have hW := Wr.set (zs := zs ++ s.data.toList) (hb1.trans hv0) (by rw [bvs_append, List.length_append]; exact hown1) hn'
    refine ⟨rfl, Wrote.trans (xs := xs) hF2 hr2 ⟨_, hW, ((Fr.refl w2 b r2).grown hgrow).set 0 _, ?_⟩⟩
    rcases hat with h | h
    · exact Or.inl h
    · exact Or.inr ⟨_, h, Nat.le_refl _⟩
end Go.Proofs.Ytcjnfmlpjolfpaa
