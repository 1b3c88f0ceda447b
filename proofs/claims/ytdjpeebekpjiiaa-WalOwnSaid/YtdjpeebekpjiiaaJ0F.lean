/- An append onto a slice that the call owns, whatever is appended (a slice, nil, a string's bytes, so many zeros): what comes back owns the old and the new, in its old row or in the block just made. No program's text is used. -/
import Derived.Deep.AppendSrc
import Derived.Maps.AppendAt
import Derived.Deep.AppendLies
import Derived.WalkKit
import Derived.Test.YtdjpeebekpjiiaaJ0E
import Derived.Test.YtdjpeebekpjiiaaPw
namespace Go.Proofs.Ytdjpeebekpjiiaa
open Go Go.RowKit

section
variable {P : Program} (w : World)

/-- What an append onto an owned slice leaves. -/
def Grew (w w' : World) (base : Nat) (e : TypeId) (size : Nat) (v v' : Value) (n : Nat) (xs : List Value) : Prop :=
  w'.ownsRow base e size v' n xs ∧ w.grownBy w' v.ownBlock ∧ (v'.ownBlock = v.ownBlock ∨ v'.ownBlock = some w.heap.size)

theorem run_append_own_src (base : Nat) (t tx ty e : TypeId) (i : TypeInfo) (z : Value) (size bytes : Nat) (ht : P.underlying t = some (.slice e)) (hi : P.info? e = some i) (hz : i.zero = some z)
    (hsize : i.size = size) (hby : i.bytes = bytes) (hzs : z.cells.size = size)
    (v : Value) (n : Nat) (xs : List Value) (hown : w.ownsRow base e size v n xs)
    (x : Value) (m : Nat) (news : List Value) (hs : Src P size tx x m news w)
    (h63 : n + m ≤ maxLen) (hbytes : (n + m) * bytes ≤ 140737488355328) (hbase : base ≤ w.heap.size) :
    ∃ v' w', (Builtin.append_ #[t, tx] ty #[v, x]).run P w = .ok v' w' ∧ Grew w w' base e size v v' (n + m) (xs ++ news) := by
  subst hsize
  subst hby
  have hsmall : n + m ≤ 9223372036854775807 := by simp only [maxLen] at h63; omega
  have hl := hs.newsLen
  have hlen : (xs ++ news).length = (n + m) * i.size := by rw [List.length_append, hown.1, hl, Nat.add_mul]
  have grown : ∀ (old : Nat), old < n + m → ∀ (row : Option Nat),
      (w.drew.alloc (.cells ((xs ++ news).toArray ++ Builtin.zeroCells z.cells (grownCap w (n + m) old e - (n + m))) e)).ownsRow base e i.size
        (.slice (some ⟨w.heap.size, 0, none⟩) (n + m) (grownCap w (n + m) old e)) (n + m) (xs ++ news) ∧
      w.grownBy (w.drew.alloc (.cells ((xs ++ news).toArray ++ Builtin.zeroCells z.cells (grownCap w (n + m) old e - (n + m))) e)) row := by
    intro old ho row
    have hge := grownCap_ge w (n + m) old e
    have hcm : grownCap w (n + m) old e ≤ maxLen := grownCap_le_maxLen w (n + m) old e h63
    refine ⟨⟨hlen, .inr ⟨w.heap.size, _, _, rfl, hbase, heap_alloc_new w.drew _, hge, hcm, ?_, ?_⟩⟩, ⟨rfl, rfl, rfl, by simp, fun k hk _ => Below.heap_alloc w.drew _ k hk⟩⟩
    · simp only [Array.size_append, List.size_toArray, size_zeroCells, hzs, hlen, ← Nat.add_mul]
      congr 1
      omega
    · simp only [Array.toList_append]
      rw [← hlen]
      exact List.take_left
  rcases hown.2 with ⟨rfl, rfl⟩ | ⟨g, cap, cur, rfl, hbg, hg, hnc, hcm, hcs, htake⟩
  · have hx : xs = [] := List.eq_nil_of_length_eq_zero (by simpa using hown.1)
    subst hx
    by_cases hm : m = 0
    · subst hm
      have hn : news = [] := List.eq_nil_of_length_eq_zero (by simpa using hl)
      subst hn
      refine ⟨.slice none 0 0, w, ?_, World.ownsRow_nil w base e i.size, ⟨rfl, rfl, rfl, Nat.le_refl _, fun _ _ _ => rfl⟩, Or.inl rfl⟩
      rcases hs.kind with ⟨e', hk⟩ | hk <;> simp [Builtin.append_, run_underlying ht, run_underlying hk, sizeOf, typeInfo, hi, hs.len, hs.cells]
    · have hold : (Builtin.firstCells i.size 0 (.slice none 0 0)).run P w.drew = .ok ([] : List Value).toArray w.drew := by simp [Builtin.firstCells]
      have hr := run_append_grow_src (P := P) w t tx ty e i z ht hi hz none 0 0 [] hold x m news hs (by omega) (by omega) (growslice_fits (by omega) (by simpa using hbytes))
      have hgr := grown 0 (by omega) (Value.ownBlock (.slice none 0 0))
      exact ⟨_, _, hr, hgr.1, hgr.2, Or.inr rfl⟩
  · by_cases hroom : n + m ≤ cap
    · have hfit : n * i.size + news.length ≤ cur.size := by rw [hl, hcs, ← Nat.add_mul]; exact Nat.mul_le_mul_right _ hroom
      have hst := run_storeCells_at P g (n * i.size) e news 0 cur w hg (by simpa using hfit) hs.one
      simp only [Nat.add_zero] at hst
      have hr : (Builtin.append_ #[t, tx] ty #[.slice (some ⟨g, 0, none⟩) n cap, x]).run P w =
          .ok (.slice (some ⟨g, 0, none⟩) (n + m) cap) (w.setRow g (cur.toList.take (n * i.size) ++ news ++ cur.toList.drop (n * i.size + news.length)).toArray) := by
        rcases hs.kind with ⟨e', hk⟩ | hk <;> simp [Builtin.append_, run_underlying ht, run_underlying hk, sizeOf, typeInfo, hi, hs.len, hroom, hs.cells, Addr.add_lit, hst]
      refine ⟨_, _, hr, ⟨hlen, .inr ⟨g, cap, _, rfl, hbg, setRow_heap w g cur _ e _ hg, hroom, hcm, ?_, ?_⟩⟩, ⟨rfl, rfl, rfl, by simp, fun k _ hk => setRow_other w g k _ (fun e => hk (by simp [Value.ownBlock, e]))⟩, Or.inl rfl⟩
      · simp only [List.size_toArray, List.length_append, List.length_take, List.length_drop, Array.length_toList]
        omega
      · rw [htake, ← hlen]
        exact List.take_left
    · have holds : ∀ j u, xs[j]? = some u → w.cell? ((⟨g, 0, none⟩ : Addr).add j) = some u := hown.cells (g := g) rfl
      have hold := run_firstCells_some (P := P) w.drew i.size n ⟨g, 0, none⟩ n cap xs hown.1 (by simpa using holds)
      have hr := run_append_grow_src (P := P) w t tx ty e i z ht hi hz (some ⟨g, 0, none⟩) n cap xs hold x m news hs (by omega) (by omega) (growslice_fits (by omega) hbytes)
      have hgr := grown cap (by omega) (Value.ownBlock (.slice (some ⟨g, 0, none⟩) n cap))
      exact ⟨_, _, hr, hgr.1, hgr.2, Or.inr rfl⟩

/-- At the operation. -/
theorem wpList_append_own_src {ops : Array Oper} {rest : List Oper} {o : Oper} {a : Act} {Q : Exit → Act → World → Prop} (hgd : o.guard = none) (s x : Operand) (t tx : TypeId)
    (ho : o.op = .call { callee := .builtin .append, args := #[s, x], argTypes := #[t, tx] })
    (base : Nat) (e : TypeId) (i : TypeInfo) (z : Value) (size bytes : Nat) (ht : P.underlying t = some (.slice e)) (hi : P.info? e = some i) (hz : i.zero = some z)
    (hsize : i.size = size) (hby : i.bytes = bytes) (hzs : z.cells.size = size)
    (v : Value) (n : Nat) (xs : List Value) (hsv : a.eval s = v) (hown : w.ownsRow base e size v n xs)
    (xv : Value) (m : Nat) (news : List Value) (hx : a.eval x = xv) (hs : Src P size tx xv m news w)
    (h63 : n + m ≤ maxLen) (hbytes : (n + m) * bytes ≤ 140737488355328) (hbase : base ≤ w.heap.size)
    (h : ∀ v' w', Grew w w' base e size v v' (n + m) (xs ++ news) → wpList P ops Q rest (a.put o.dst v') w') :
    wpList P ops Q (o :: rest) a w := by
  refine wpList_plain hgd fun K hK => ?_
  obtain ⟨v', w', hr, h2⟩ := run_append_own_src (P := P) w base t tx o.type e i z size bytes ht hi hz hsize hby hzs v n xs hown xv m news hs h63 hbytes hbase
  unfold Oper.wp execOp
  simp only [ho, resolve, invoke, builtin, Sem.run_bind, Sem.run_pure, Result.andThen_ok, List.map_toArray, List.map_cons, List.map_nil, hsv, hx, hr]
  exact hK _ _ (h v' w' h2)

/-- The source, whatever its address: nothing is asked where nothing is appended. -/
theorem Src.any {size : Nat} {tx e' : TypeId} (hk : P.underlying tx = some (.slice e')) (ao : Option Addr) (n c : Nat) (news : List Value) (hl : news.length = n * size) (hno : ao = none → n = 0)
    (hnews : ∀ a, ao = some a → ∀ j u, news[j]? = some u → w.cell? (a.add j) = some u) (h1 : ∀ u ∈ news, u.oneCell' = true) : Src P size tx (.slice ao n c) n news w := by
  cases ao with
  | none =>
    obtain rfl := hno rfl
    obtain rfl : news = [] := List.eq_nil_of_length_eq_zero (by simpa using hl)
    exact Src.ofNil w hk c
  | some a => exact Src.ofSlice w hk a n c news hl (hnews a rfl) h1
end
end Go.Proofs.Ytdjpeebekpjiiaa
/- An append onto a slice that is full, wherever it lies: nothing, or a new row. No program's text is used. -/
namespace Go.Proofs.Ytdjpeebekpjiiaa.Dk
open Go Go.RowKit
set_option linter.unusedVariables false
set_option linter.unusedSimpArgs false
section
variable {P : Program} (w : World)
/-- What an append onto a full slice leaves. -/
def GrewFull (w w' : World) (base : Nat) (e : TypeId) (size : Nat) (v v' : Value) (n m : Nat) (xs : List Value) : Prop :=
  (m = 0 ∧ v' = v ∧ w' = w) ∨ (0 < m ∧ w'.ownsRow base e size v' (n + m) xs ∧ w.grownBy w' none ∧ v'.ownBlock = some w.heap.size)
theorem run_append_full_src (base : Nat) (t tx ty e : TypeId) (i : TypeInfo) (z : Value) (size bytes : Nat) (ht : P.underlying t = some (.slice e)) (hi : P.info? e = some i) (hz : i.zero = some z)
    (hsize : i.size = size) (hby : i.bytes = bytes) (hzs : z.cells.size = size)
    (ad : Addr) (n : Nat) (xs : List Value) (hxl : xs.length = n * size) (hxs : ∀ j u, xs[j]? = some u → w.cell? (ad.add j) = some u)
    (x : Value) (m : Nat) (news : List Value) (hs : Src P size tx x m news w)
    (h63 : n + m ≤ maxLen) (hbytes : (n + m) * bytes ≤ 140737488355328) (hbase : base ≤ w.heap.size) :
    ∃ v' w', (Builtin.append_ #[t, tx] ty #[.slice (some ad) n n, x]).run P w = .ok v' w' ∧ GrewFull w w' base e size (.slice (some ad) n n) v' n m (xs ++ news) := by
  subst hsize
  subst hby
  have hl := hs.newsLen
  by_cases hm : m = 0
  · subst hm
    have hn : news = [] := List.eq_nil_of_length_eq_zero (by simpa using hl)
    subst hn
    refine ⟨.slice (some ad) n n, w, ?_, .inl ⟨rfl, rfl, rfl⟩⟩
    rcases hs.kind with ⟨e', hk⟩ | hk <;> simp [Builtin.append_, run_underlying ht, run_underlying hk, sizeOf, typeInfo, hi, hs.len, hs.cells, storeCells]
  · have hsmall : n + m ≤ 9223372036854775807 := by simp only [maxLen] at h63; omega
    have hlen : (xs ++ news).length = (n + m) * i.size := by rw [List.length_append, hxl, hl, Nat.add_mul]
    have hold := run_firstCells_some (P := P) w.drew i.size n ad n n xs hxl (by simpa using hxs)
    have hr := run_append_grow_src (P := P) w t tx ty e i z ht hi hz (some ad) n n xs hold x m news hs (by omega) (by omega) (growslice_fits (by omega) hbytes)
    refine ⟨_, _, hr, .inr ⟨by omega, ⟨hlen, .inr ⟨w.heap.size, _, _, rfl, hbase, heap_alloc_new w.drew _, grownCap_ge w (n + m) n e, grownCap_le_maxLen w (n + m) n e h63, ?_, ?_⟩⟩, ⟨rfl, rfl, rfl, by simp, fun k hk _ => Below.heap_alloc w.drew _ k hk⟩, rfl⟩⟩
    · have hge := grownCap_ge w (n + m) n e
      simp only [Array.size_append, List.size_toArray, size_zeroCells, hzs, hlen, ← Nat.add_mul]
      congr 1
      omega
    · simp only [Array.toList_append]
      rw [← hlen]
      exact List.take_left
theorem wpList_append_full_src {ops : Array Oper} {rest : List Oper} {o : Oper} {a : Act} {Q : Exit → Act → World → Prop} (hgd : o.guard = none) (s x : Operand) (t tx : TypeId)
    (ho : o.op = .call { callee := .builtin .append, args := #[s, x], argTypes := #[t, tx] })
    (base : Nat) (e : TypeId) (i : TypeInfo) (z : Value) (size bytes : Nat) (ht : P.underlying t = some (.slice e)) (hi : P.info? e = some i) (hz : i.zero = some z)
    (hsize : i.size = size) (hby : i.bytes = bytes) (hzs : z.cells.size = size)
    (ad : Addr) (n : Nat) (xs : List Value) (hsv : a.eval s = .slice (some ad) n n) (hxl : xs.length = n * size) (hxs : ∀ j u, xs[j]? = some u → w.cell? (ad.add j) = some u)
    (xv : Value) (m : Nat) (news : List Value) (hx : a.eval x = xv) (hs : Src P size tx xv m news w)
    (h63 : n + m ≤ maxLen) (hbytes : (n + m) * bytes ≤ 140737488355328) (hbase : base ≤ w.heap.size)
    (h : ∀ v' w', GrewFull w w' base e size (.slice (some ad) n n) v' n m (xs ++ news) → wpList P ops Q rest (a.put o.dst v') w') :
    wpList P ops Q (o :: rest) a w := by
  refine wpList_plain hgd fun K hK => ?_
  obtain ⟨v', w', hr, h2⟩ := run_append_full_src (P := P) w base t tx o.type e i z size bytes ht hi hz hsize hby hzs ad n xs hxl hxs xv m news hs h63 hbytes hbase
  unfold Oper.wp execOp
  simp only [ho, resolve, invoke, builtin, Sem.run_bind, Sem.run_pure, Result.andThen_ok, List.map_toArray, List.map_cons, List.map_nil, hsv, hx, hr]
  exact hK _ _ (h v' w' h2)
end
end Go.Proofs.Ytdjpeebekpjiiaa.Dk
/- What a ring's call Append leaves. -/
namespace Go.Proofs.Ytdjpeebekpjiiaa.Dk
open Go Go.RowKit
set_option linter.unusedVariables false
set_option linter.unusedSimpArgs false

/-- Where the loop of Append stands. -/
def ApRel (w w1 : World) (k q : Nat) (S : List UInt8) (L : List (List UInt8)) (u vb : Value) (wr : World) : Prop :=
  ∃ j : Nat, u = .int .i64 (j : Int) ∧ j ≤ L.length ∧ Below w.heap.size w wr ∧
    ((sumLen (L.take j) = 0 ∧ vb = .slice (some ⟨k, 0, none⟩) q q) ∨ (0 < sumLen (L.take j) ∧ wr.ownsRow w.heap.size 5 1 vb (q + sumLen (L.take j)) (bvs (S.take q ++ (L.take j).flatten))))
theorem own_range {w : World} {base n : Nat} {v : Value} {l : List UInt8} (h : w.ownsRow base 5 1 v n (bvs l)) (hn : 0 < n) : ∃ kb c, v = .slice (some ⟨kb, 0, none⟩) n c ∧ base ≤ kb ∧ n ≤ c ∧ w.rangeAt kb 0 (bvs l) := by
  rcases h.2 with ⟨_, e⟩ | ⟨g, cap, cur, e, hb, hh, h1, h2, h3, h4⟩
  · omega
  · refine ⟨g, cap, e, hb, h1, fun j v hv => ?_⟩
    rw [cell_of_row w g (0 + j) _ _ _ hh, Nat.zero_add, ← Array.getElem?_toList]
    rw [← h4] at hv
    rw [List.getElem?_take] at hv
    split at hv
    · exact hv
    · cases hv
set_option maxRecDepth 100000 in
set_option maxHeartbeats 4000000 in
theorem append_any {w : World} {r d k first count tail : Nat} {S : List UInt8} {t : TypeId} (h : RingAt w r d k first count tail S t) (ht : tail ≤ 4611686018427387904)
    {g m n : Nat} {x : DS} (hD : DiskAt Try.prog w d g m n x) (hr : ¬ own3 d g m r) (hk : ¬ own3 d g m k) (hnn : n ≤ 1000000000)
    (head : Nat) (hh : head < 18446744073709551616) (ao : Option Addr) (c : Nat) (L : List (List UInt8)) (hP : Parts w (.slice ao L.length c) L) (hl : L.length ≤ 1000000) (hsum : sumLen L ≤ 900000) :
    Calls Try.prog 87 #[.pointer (some ⟨r, 0, none⟩), .int .u64 (head : Int), .slice ao L.length c] w fun e w' =>
      (leftN head tail count < sumLen L ∧ e = .returned (.int .i64 3) ∧ ∃ q, w' = w.drewN q) ∨ (sumLen L = 0 ∧ e = .returned (.int .i64 0) ∧ ∃ q, w' = w.drewN q) ∨
      (0 < sumLen L ∧ sumLen L ≤ leftN head tail count ∧ ∃ X, X = lays first count (S.take (tail % 128) ++ L.flatten).length x (tail - tail % 128) (S.take (tail % 128) ++ L.flatten) ∧ e = .returned (.int .i64 X.2) ∧
        DiskAt Try.prog w' d g m (n + (S.take (tail % 128) ++ L.flatten).length) X.1 ∧ Frm (fun i => i = r ∨ own3 d g m i) w w' ∧
        (X.2 = 0 → ∃ ks, w.heap.size ≤ ks ∧ RingAt w' r d ks first count (tail + sumLen L) (pad ((S.take (tail % 128) ++ L.flatten).drop (((S.take (tail % 128) ++ L.flatten).length - 1) / 128 * 128))) 5) ∧
        (X.2 ≠ 0 → RingAt w' r d k first count tail S t)) := by
  obtain ⟨i0, hi, hz0, hz1, hz2⟩ := info_parts Try.infoU8
  have q4 := h.q4
  have H := Lib.hid h
  have HD := Lib.hid hD
  have HP := Lib.hid hP
  have LF := Lib.hid (left_any h ht head hh)
  have hm := Nat.mod_lt tail (show 0 < 128 by decide)
  have hlb : leftN head tail count ≤ 1000000 := by have := h.few; unfold leftN; omega
  generalize hq : tail % 128 = q at *
  have hSq : (S.take q).length = q := by rw [List.length_take, h.len]; omega
  obtain ⟨b, hb⟩ : ∃ b, b = S.take q ++ L.flatten := ⟨_, rfl⟩
  have hbl : b.length = q + sumLen L := by rw [hb, List.length_append, hSq]; rfl
  rw [← hb]
  generalize hroom : leftN head tail count = room at *
  have TT := Lib.hid (fun W (hW : Parts W (.slice ao L.length c) L) => total_any room hlb ao c L W hW hl)
  have HT := Lib.hid ht
  have HQ := Lib.hid hq
  have HB := Lib.hid hb
  have HBL := Lib.hid hbl
  have HSQ := Lib.hid hSq
  have HS := Lib.hid hsum
  clear h hD hP hq hb hbl hSq hsum ht hh hlb
  go_enter Try.func87, Try.ntmps87
  go_wp2_with fail
  refine LF.out.mono ?_
  rintro e w0 ⟨rfl, m0, rfl⟩
  go_wp2_with fail
  refine (TT.out (w.drewN m0) (HP.out.below (B := w.heap.size) ((Below.refl _ _).trans (below_drewN (Below.refl _ _) m0)) (Nat.le_refl _))).mono ?_
  rintro e w' ⟨hcase, rfl⟩
  rcases hcase with ⟨hle, rfl⟩ | ⟨hgt, rfl⟩
  · by_cases h0 : sumLen L = 0
    · rw [h0]
      go_wp2_with fail
      go_ret
      exact .inr (.inl ⟨h0, rfl, _, rfl⟩)
    · have h0i : ¬ ((sumLen L : Nat) : Int) = 0 := by omega
      have h0b : ((((sumLen L : Nat) : Int)) == 0) = false := by simpa using h0
      have HLE := Lib.hid hle
      have H0 := Lib.hid h0
      have B0 := Lib.hid (below_drewN (Below.refl w.heap.size w) m0)
      have R0 := Lib.hid (show ApRel w (w.drewN m0) k q S L (.int .i64 0) (.slice (some ⟨k, 0, none⟩) q q) (w.drewN m0) from ⟨0, rfl, Nat.zero_le _, B0.out, .inl ⟨by simp [sumLen], rfl⟩⟩)
      clear hle h0
      go_wp2_with fail
      go_loopw [33, 9] (fun u vb wr => ApRel w (w.drewN m0) k q S L u vb wr) (fun u _ _ => L.length - (intOf u).toNat)
      case atStart => exact R0.out
      case round =>
        obtain ⟨wo, rfl⟩ : ∃ wo : World, wo = wr := ⟨_, rfl⟩
        obtain ⟨j, rfl, hj, hB, hst⟩ := hrel
        have HBW := Lib.hid hB
        by_cases hjl : j < L.length
        · have hji : (j : Int) < (L.length : Int) := by omega
          obtain ⟨ao', c', e', hc⟩ := HP.out.below hB (Nat.le_refl _)
          injection e' with e1 e2 e3
          subst e1 e3
          obtain ⟨a, rfl, aj, cj, hcell, hsl⟩ := hc j hjl
          have stk := sumLen_take hjl
          have ftk := flat_take hjl
          have sle := sumLen_le (L := L) (j + 1)
          obtain ⟨pt, hpt⟩ : ∃ pt, pt = L.getD j [] := ⟨_, rfl⟩
          rw [← hpt] at hcell hsl stk ftk
          obtain ⟨_, _, e5, hno, hsr⟩ := hsl
          injection e5 with e6 e7 e8
          subst e6 e8
          have SR := Lib.hid (Src.any (P := Try.prog) wo (e' := 5) (size := 1) Try.underlying37 aj pt.length cj (bvs pt) (by rw [bvs_length, Nat.mul_one]) (fun h => by rw [hno h]; rfl) hsr (bvs_one pt))
          have FT := Lib.hid ftk
          have ST := Lib.hid stk
          have SL := Lib.hid sle
          have ptb := Lib.hid (show sumLen (L.take j) + pt.length ≤ 900000 from by have := HS.out; omega)
          clear hc hno hsr ftk stk sle hpt hB
          rcases hst with ⟨hz, rfl⟩ | ⟨hz, hown⟩
          · have hxs : ∀ i u, (bvs (S.take q))[i]? = some u → wo.cell? ((⟨k, 0, none⟩ : Addr).add i) = some u := by
              intro i u hu
              rw [Addr.add_mid, cell_of_row wo k (0 + i) _ _ _ ((HBW.out.block k H.out.klt).trans H.out.row), Nat.zero_add]
              simp only [bvs, List.map_take, List.getElem?_take] at hu
              split at hu
              · simpa [bvs] using hu
              · cases hu
            have HX := Lib.hid hxs
            clear hxs
            go_wp2_with (at_builtin; refine wpList_append_full_src _ rfl (.tmp 37) (.tmp 38) 37 37 rfl w.heap.size 5 i0 (.int .u8 0) 1 1 Try.underlying37 hi hz0 hz1 hz2 rfl ⟨k, 0, none⟩ q (bvs (S.take q)) rfl (by rw [bvs_length, HSQ.out, Nat.mul_one]) HX.out _ pt.length (bvs pt) rfl SR.out (by unfold maxLen; have := ptb.out; omega) (by have := ptb.out; omega) HBW.out.size ?_)
            intro v1 w1 hg
            have hrel : ApRel w (w.drewN m0) k q S L (.int .i64 ((j + 1 : Nat) : Int)) v1 w1 := by
              rcases hg with ⟨h1, rfl, rfl⟩ | ⟨h1, ho, hgr, _⟩
              · exact ⟨j + 1, rfl, by omega, HBW.out, .inl ⟨by rw [ST.out, hz, h1], rfl⟩⟩
              · refine ⟨j + 1, rfl, by omega, HBW.out.grown hgr HBW.out.size (fun _ e => by cases e), .inr ⟨by rw [ST.out]; omega, ?_⟩⟩
                have ef : (L.take j).flatten = [] := List.eq_nil_of_length_eq_zero hz
                rw [ST.out, hz, Nat.zero_add, FT.out, ef, List.nil_append, bvs_append]
                exact ho
            have RL := Lib.hid hrel
            clear hrel hg HX
            go_wp2_with fail
            exact ⟨RL.out, by simp [intOf]; omega⟩
          · have HO := Lib.hid hown
            have HZ := Lib.hid hz
            clear hown hz
            go_wp2_with (at_builtin; refine wpList_append_own_src _ rfl (.tmp 37) (.tmp 38) 37 37 rfl w.heap.size 5 i0 (.int .u8 0) 1 1 Try.underlying37 hi hz0 hz1 hz2 rfl _ _ _ rfl HO.out _ pt.length (bvs pt) rfl SR.out (by unfold maxLen; have := ptb.out; omega) (by have := ptb.out; omega) HBW.out.size ?_)
            rintro v1 w1 ⟨ho, hgr, hat⟩
            have hrel : ApRel w (w.drewN m0) k q S L (.int .i64 ((j + 1 : Nat) : Int)) v1 w1 := by
              refine ⟨j + 1, rfl, by omega, HBW.out.grown hgr HBW.out.size (fun i e => (HO.out.lt i e).1), .inr ⟨by rw [ST.out]; have := HZ.out; omega, ?_⟩⟩
              rw [ST.out, FT.out, ← List.append_assoc, bvs_append, ← Nat.add_assoc]
              exact ho
            have RL := Lib.hid hrel
            clear hrel ho hgr hat
            go_wp2_with fail
            exact ⟨RL.out, by simp [intOf]; omega⟩
        · obtain rfl : j = L.length := by omega
          rw [List.take_length] at hst
          rcases hst with ⟨hz, _⟩ | ⟨hz, hown⟩
          · exact absurd hz H0.out
          · rw [← HB.out] at hown
            obtain ⟨kb, cb, rfl, hkb, hcb, hrg⟩ := own_range hown (by omega)
            rw [← HBL.out] at hcb ⊢
            have hkb3 : ¬ own3 d g m kb := fun h => by have := h.elim (fun h => h ▸ HD.out.dlt) (fun h => h.elim (fun h => h ▸ HD.out.glt) (fun h => h ▸ HD.out.mlt)); omega
            have WR := Lib.hid (rwrite_any (H.out.below hB (Nat.le_refl _)) HT.out (HD.out.below hB (Nat.le_refl _)) hr hk hrg hkb3 hcb (by rw [HBL.out]; omega) (by rw [HBL.out]; have := HS.out; omega) hnn)
            rw [HQ.out] at WR
            clear hown hrg hkb3 hkb hz hB
            go_wp2_with fail
            refine WR.out.mono ?_
            rintro e w9 ⟨rfl, hD9, hF9, hok, hbad⟩
            have HD9 := Lib.hid hD9
            have HF9 := Lib.hid hF9
            have HOK := Lib.hid hok
            have HBAD := Lib.hid hbad
            clear hD9 hF9 hok hbad WR
            go_wp2_with fail
            go_ret
            refine .inr (.inr ⟨by have := H0.out; omega, HLE.out, _, rfl, rfl, HD9.out, ?_, ?_, ?_⟩)
            · exact (Frm.of_below HBW.out (Nat.le_refl _)).trans HF9.out
            · intro hx
              obtain ⟨ks, hks, hR⟩ := HOK.out hx
              refine ⟨ks, Nat.le_trans HBW.out.size hks, ?_⟩
              have e1 : tail - q + b.length = tail + sumLen L := by rw [HBL.out]; have := HQ.out; have := Nat.mod_le tail 128; omega
              rw [← e1]
              exact hR
            · intro hx
              exact HBAD.out hx
  · go_wp2_with fail
    go_ret
    exact .inl ⟨hgt, rfl, _, rfl⟩
end Go.Proofs.Ytdjpeebekpjiiaa.Dk
/- slices.Concat, slices.Clone, slices.ContainsFunc of bytes. -/
namespace Go.Proofs.Ytdjpeebekpjiiaa.Dk
open Go Go.RowKit
set_option linter.unusedVariables false
set_option linter.unusedSimpArgs false
def SzRel (L : List (List UInt8)) (v u : Value) : Prop := ∃ k : Nat, u = .int .i64 (k : Int) ∧ k ≤ L.length ∧ v = .int .i64 ((sumLen (L.take k) : Nat) : Int)
def CtRel (w : World) (L : List (List UInt8)) (vb u : Value) (wr : World) : Prop := ∃ j : Nat, u = .int .i64 (j : Int) ∧ j ≤ L.length ∧ Below w.heap.size w wr ∧ wr.ownsRow w.heap.size 5 1 vb (sumLen (L.take j)) (bvs (L.take j).flatten)
theorem grow_nil (n : Nat) (h0 : 0 < n) (hn : n ≤ 1000000) (w : World) : Calls Try.prog 98 #[.slice none 0 0, .int .i64 (n : Int)] w fun e w' => ∃ v, e = .returned v ∧ w'.ownsRow w.heap.size 5 1 v 0 [] ∧ Below w.heap.size w w' := by
  obtain ⟨i0, hi, hz0, hz1, hz2⟩ := info_parts Try.infoU8
  have hge := grownCap_ge w (0 + n) 0 5
  have hcm := grownCap_le_maxLen w (0 + n) 0 5 (by unfold maxLen; omega)
  refine (Go.Proofs.Any8.slices_Grow_grow Try.growB i0 (.int .u8 0) hi hz0 (by omega) none 0 0 n [] w (Nat.le_refl 0) (by omega) (by rw [hz2]; omega) (by omega) (by simp) (fun _ => rfl) (fun a h => by cases h)).mono ?_
  rintro e w' ⟨rfl, hw'⟩
  refine ⟨_, rfl, ?_, ?_⟩
  · refine ⟨rfl, .inr ⟨w.heap.size, _, _, rfl, Nat.le_refl _, by rw [hw']; exact heap_alloc_new w.drew _, Nat.zero_le _, hcm, ?_, by simp⟩⟩
    simp only [Array.size_append, List.size_toArray, List.length_nil, size_zeroCells]
    rw [show (Value.int .u8 0).cells.size = 1 from rfl, show Try.growB_ren.t 25 = 5 from rfl]
    omega
  · rw [hw']
    exact (below_drewN (Below.refl w.heap.size w) 1).alloc (by simp) _
set_option maxRecDepth 100000 in
set_option maxHeartbeats 4000000 in
theorem wconcat_any {w : World} {ao : Option Addr} {c : Nat} {L : List (List UInt8)} (h : Parts w (.slice ao L.length c) L) (hl : L.length ≤ 1000) (h0 : 0 < sumLen L) (hs : sumLen L ≤ 900000) :
    Calls Try.prog 85 #[.slice ao L.length c] w fun e w' => ∃ v, e = .returned v ∧ w'.ownsRow w.heap.size 5 1 v (sumLen L) (bvs L.flatten) ∧ Below w.heap.size w w' := by
  obtain ⟨i0, hi, hz0, hz1, hz2⟩ := info_parts Try.infoU8
  obtain ⟨ao', c', he, hc⟩ := id h
  injection he with e1 e2 e3
  subst e1 e3
  have HC := Lib.hid hc
  have HP := Lib.hid h
  have GR := Lib.hid (grow_nil (sumLen L) h0 (by omega) w)
  clear hc h
  go_enter Try.func85, Try.ntmps85
  go_wp2_with fail
  go_loop [3, 11] (fun v u => SzRel L v u) (fun _ u => L.length - (intOf u).toNat)
  case atStart => exact ⟨0, rfl, Nat.zero_le _, rfl⟩
  case round =>
    obtain ⟨k, rfl, hk, rfl⟩ := hrel
    by_cases hkl : k < L.length
    · obtain ⟨a, rfl, aj, cj, hcell, hsl⟩ := HC.out k hkl
      have stk := sumLen_take hkl
      have sle := sumLen_le (L := L) (k + 1)
      have sle0 := sumLen_le (L := L) k
      obtain ⟨pl, hpl⟩ : ∃ pl, pl = (L.getD k []).length := ⟨_, rfl⟩
      rw [← hpl] at hcell stk
      obtain ⟨sk, hsk⟩ : ∃ sk, sk = sumLen (L.take k) := ⟨_, rfl⟩
      rw [← hsk] at stk sle0 ⊢
      have q1 : (k : Int) < (L.length : Int) := by omega
      have q0 : (0 : Int) ≤ (k : Int) := by omega
      have ST := Lib.hid stk
      have b1 : (sk : Int) + (pl : Int) ≤ 900000 := by omega
      clear hsl hpl hsk stk sle
      go_wp2_with fail
      go_round
      case rel => exact ⟨k + 1, by go_num, by omega, by rw [ST.out]; go_num⟩
      case measure => simp [intOf]; omega
    · obtain rfl : k = L.length := by omega
      rw [List.take_length]
      obtain ⟨S, hS⟩ : ∃ S, S = sumLen L := ⟨_, rfl⟩
      rw [← hS] at GR ⊢
      have HSS := Lib.hid hS
      clear hS
      go_wp2_with fail
      refine GR.out.mono ?_
      rintro e w1 ⟨v1, rfl, ho1, hb1⟩
      have R0 := Lib.hid (show CtRel w L v1 (.int .i64 0) w1 from ⟨0, rfl, Nat.zero_le _, hb1, ho1⟩)
      clear ho1 hb1
      go_wp2_with fail
      go_loopw [6, 27] (fun vb u wr => CtRel w L vb u wr) (fun _ u _ => L.length - (intOf u).toNat)
      case atStart => exact R0.out
      case round =>
        obtain ⟨wo, rfl⟩ : ∃ wo : World, wo = wr := ⟨_, rfl⟩
        obtain ⟨j, rfl, hj, hB, hown⟩ := hrel
        have HBW := Lib.hid hB
        by_cases hjl : j < L.length
        · have hji : (j : Int) < (L.length : Int) := by omega
          obtain ⟨ao', c', e', hc⟩ := HP.out.below hB (Nat.le_refl _)
          injection e' with e1 e2 e3
          subst e1 e3
          obtain ⟨a, rfl, aj, cj, hcell, hsl⟩ := hc j hjl
          have stk := sumLen_take hjl
          have ftk := flat_take hjl
          have sle := sumLen_le (L := L) (j + 1)
          obtain ⟨pt, hpt⟩ : ∃ pt, pt = L.getD j [] := ⟨_, rfl⟩
          rw [← hpt] at hcell hsl stk ftk
          obtain ⟨_, _, e5, hno, hsr⟩ := hsl
          injection e5 with e6 e7 e8
          subst e6 e8
          have SR := Lib.hid (Src.any (P := Try.prog) wo (e' := 5) (size := 1) Try.underlying37 aj pt.length cj (bvs pt) (by rw [bvs_length, Nat.mul_one]) (fun h => by rw [hno h]; rfl) hsr (bvs_one pt))
          have FT := Lib.hid ftk
          have ST := Lib.hid stk
          have ptb := Lib.hid (show sumLen (L.take j) + pt.length ≤ 900000 from by omega)
          have HO := Lib.hid hown
          clear hc hno hsr ftk stk sle hpt hB hown
          go_wp2_with (at_builtin; refine wpList_append_own_src _ rfl (.tmp 31) (.tmp 32) 37 37 rfl w.heap.size 5 i0 (.int .u8 0) 1 1 Try.underlying37 hi hz0 hz1 hz2 rfl _ _ _ rfl HO.out _ pt.length (bvs pt) rfl SR.out (by unfold maxLen; have := ptb.out; omega) (by have := ptb.out; omega) HBW.out.size ?_)
          rintro v1 w1 ⟨ho, hgr, hat⟩
          have hrel : CtRel w L v1 (.int .i64 ((j + 1 : Nat) : Int)) w1 := by
            refine ⟨j + 1, rfl, by omega, HBW.out.grown hgr HBW.out.size (fun i e => (HO.out.lt i e).1), ?_⟩
            rw [ST.out, FT.out, bvs_append]
            exact ho
          have RL := Lib.hid hrel
          clear hrel ho hgr hat
          go_wp2_with fail
          exact ⟨RL.out, by simp [intOf]; omega⟩
        · obtain rfl : j = L.length := by omega
          rw [List.take_length] at hown
          have HO := Lib.hid hown
          have q1 : ¬ (L.length : Int) < (L.length : Int) := by omega
          clear hown hB
          go_wp2_with fail
          go_ret
          exact ⟨_, rfl, by rw [HSS.out]; exact HO.out, HBW.out⟩
/-- Bytes that are cloned: no nil. -/
theorem wclone_any {w : World} {g off n c : Nat} {l : List UInt8} (hn : l.length = n) (hl : n ≤ 1000000) (h : w.rangeAt g off (bvs l)) :
    Calls Try.prog 48 #[.slice (some ⟨g, off, none⟩) n c] w fun e w' => ∃ v, e = .returned v ∧ w'.ownsRow w.heap.size 5 1 v n (bvs l) ∧ v ≠ .slice none 0 0 ∧ Below w.heap.size w w' := by
  obtain ⟨i0, hi, hz0, hz1, hz2⟩ := info_parts Try.infoU8
  exact Go.Proofs.AnyE.slices_Clone Try.cloneB i0 (.int .u8 0) 1 1 hi hz0 hz1 hz2 rfl (by decide) (fun w => by
      show (sizeOf 5).run Try.prog w = _
      rw [← hz1]
      simp [sizeOf, typeInfo, hi, go_sem]) g off n c (bvs l) w (by rw [bvs_length, hn, Nat.mul_one]) (by unfold maxLen; omega) (by omega) (fun j u hj => h j u hj) (bvs_one l)
theorem isRest1_at (w : World) : Go.Proofs.PredAt Try.prog 82 #[] bv (fun x : UInt8 => x != 0) w := by
  intro W x hb
  show Calls Try.prog 82 #[bv x] W _
  unfold bv
  by_cases h : x = 0
  · subst h
    go_enter Try.func82, Try.ntmps82
    go_wp2
    go_ret
    exact ⟨rfl, 0, rfl⟩
  · have h2 : (((x.toNat : Nat) : Int) == 0) = false := by
      rw [beq_eq_false_iff_ne]
      intro e
      exact h (UInt8.toNat_inj.mp (by simpa using e))
    have h3 : (((x.toNat : Nat) : Int) != 0) = true := by simp only [bne, h2, Bool.not_false]
    rw [show (fun x : UInt8 => x != 0) x = true by simpa using h]
    go_enter Try.func82, Try.ntmps82
    go_wp2
    go_ret
    exact ⟨by first | rfl | (simp only [h3]; rfl), 0, rfl⟩
theorem wnone_any {w : World} {g off c : Nat} {l : List UInt8} (hl : l.length ≤ 1000000) (h : w.rangeAt g off (bvs l)) :
    Calls Try.prog 81 #[.slice (some ⟨g, off, none⟩) l.length c, .func (.func 82) #[] #[]] w fun e w' => e = .returned (.bool (l.any fun x => x != 0)) ∧ ∃ q, w' = w.drewN q := by
  have := Go.Proofs.AnyE.slices_ContainsFunc Try.containsFB bv (fun x : UInt8 => x != 0) 82 #[] (enters_of Try.func82 (by kernel_rfl) rfl) g off l.length c l w (isRest1_at w) (Nat.le_refl _) (by omega) (fun j hj => by
    rw [h j (bv l[j]) (by simp [bvs, hj])]
    rw [getElem!_pos l j hj])
  rw [List.take_length] at this
  exact this
end Go.Proofs.Ytdjpeebekpjiiaa.Dk
