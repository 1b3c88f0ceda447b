/- Two marks held against each other. -/
import Derived.Test.YtdjpeebekpjiiaaJ0O
import Derived.Test.YtdjpeebekpjiiaaJ0D
import Derived.Test.YtdjpeebekpjiiaaJ0B
import Derived.Test.YtdjpeebekpjiiaaJ0I
import Derived.Test.YtdjpeebekpjiiaaJ0A
import Derived.Test.YtdjpeebekpjiiaaJ0K
namespace Go.Proofs.Ytdjpeebekpjiiaa.Dk
open Go Go.RowKit
set_option linter.unusedVariables false
set_option linter.unusedSimpArgs false
theorem uvs_lit (l : List Nat) (i : Nat) (h : i < l.length) : (l.map uv).toArray[i]? = some (.int .u64 ((l.getD i 0 : Nat) : Int)) := by
  simp [uv, List.getD, h]
theorem Try.infoW64 : (Try.prog.info? 43).map (fun i => (i.zero, i.size, i.bytes)) = some (some (.int .u64 0), 1, 8) := by kernel_rfl
theorem part_word (l : List Nat) (i : Nat) (h : i < l.length) (w : World) : (part 43 (l.map uv).toArray (i * 1)).run Try.prog w = .ok (.int .u64 ((l.getD i 0 : Nat) : Int)) w := by
  obtain ⟨i0, hi0, hz0, hz1, hz2⟩ := info_parts Try.infoW64
  have hh := uvs_lit l i h
  have hs : i < (l.map uv).toArray.size := by simpa using h
  rw [Array.getElem?_eq_getElem hs] at hh
  have hv := Option.some.inj hh
  simp only [List.getElem_toArray] at hv
  have hsz : (sizeOf 43).run Try.prog w = .ok 1 w := by simp [sizeOf, typeInfo, hi0, hz1]
  have hl : i < (l.map uv).length := by simpa using hs
  simp [part, go_sem, hi0, hz1, hl, hv, sizeOf, typeInfo]
  rw [List.getElem?_eq_getElem h]
  rfl
theorem eq_words (l m : List Nat) (d : Nat) : ∀ (is : List Nat) (w : World), (∀ i ∈ is, i < l.length ∧ i < m.length) →
    (Op.eqItems (d + 1) 43 1 (l.map uv).toArray (m.map uv).toArray is).run Try.prog w = .ok (is.all fun i => l.getD i 0 == m.getD i 0) w
  | [], w, _ => by simp [Op.eqItems]
  | i :: is, w, h => by
    have hi := h i (by simp)
    have ih := eq_words l m d is w (fun j hj => h j (by simp [hj]))
    have hu : Try.prog.underlying 43 = some (.int .u64) := Try.underlying43
    have he : ∀ a b : Nat, (Op.equalIn (d + 1) 43 (.int .u64 (a : Int)) (.int .u64 (b : Int))).run Try.prog w = .ok (a == b) w := by
      intro a b
      have : (((a : Nat) : Int) == ((b : Nat) : Int)) = (a == b) := by
        rw [Bool.eq_iff_iff, beq_iff_eq, beq_iff_eq, Int.ofNat_inj]
      simp [Op.equalIn, run_underlying hu, this]
    simp only [Op.eqItems, Sem.run_bind, part_word l i hi.1, part_word m i hi.2, Result.andThen_ok, he]
    by_cases hb : (l.getD i 0 == m.getD i 0) = true
    · simp only [hb, Bool.not_true, Bool.false_eq_true, if_false, ih, List.all_cons, Bool.true_and]
    · simp only [Bool.not_eq_true] at hb
      simp only [hb, Bool.not_false, if_true, Sem.run_pure, List.all_cons, Bool.false_and]
set_option maxRecDepth 100000 in
theorem equal_six (l m : List Nat) (hl : l.length = 6) (hm : m.length = 6) (w : World) : (Op.equalIn 9999 86 (.agg (l.map uv).toArray) (.agg (m.map uv).toArray)).run Try.prog w = .ok (decide (l = m)) w := by
  obtain ⟨i0, hi0, hz0, hz1, hz2⟩ := info_parts Try.infoW64
  have hc : Try.prog.cellsOf 43 = 1 := by kernel_rfl
  have h := run_equalIn_array (P := Try.prog) w 9998 (t := 86) (l.map uv).toArray (m.map uv).toArray (show Try.prog.underlying 86 = some (.array 6 43) by kernel_rfl) hi0
  rw [show (9999 : Nat) = 9998 + 1 from rfl, h, hc, eq_words l m 9997 _ w (fun i hi => by have := List.mem_range.1 hi; omega)]
  congr 1
  rw [Bool.eq_iff_iff]
  simp only [List.all_eq_true, List.mem_range, beq_iff_eq, decide_eq_true_eq]
  constructor
  · intro hh
    apply List.ext_getElem (by omega)
    intro i h1 h2
    have := hh i (by omega)
    simpa [List.getD, h1, h2] using this
  · rintro rfl i _; rfl
set_option maxRecDepth 100000 in
set_option maxHeartbeats 1000000 in
theorem eql_mark (m n : MkD) (hm : m.Ok) (hn : n.Ok) (w : World) : (binOp .eql 88 (.agg m.cells.toArray) (.agg n.cells.toArray)).run Try.prog w = .ok (.bool (decide (m = n))) w := by
  obtain ⟨s, W⟩ := m
  obtain ⟨t, V⟩ := n
  have h6 := equal_six W V hm.len hn.len
  have e1 : (MkD.mk s W).cells.toArray = #[uv s] ++ (W.map uv).toArray := by simp [MkD.cells]
  have e2 : (MkD.mk t V).cells.toArray = #[uv t] ++ (V.map uv).toArray := by simp [MkD.cells]
  unfold binOp Op.equal
  rw [show Op.maxDepth = 9999 + 1 from rfl]
  simp [go_sem, Try.underlying88]
  have c1 : (MkD.mk s W).cells[0]? = some (uv s) := rfl
  have c2 : (MkD.mk t V).cells[0]? = some (uv t) := rfl
  have hl : W.length = 6 := hm.len
  have hk : V.length = 6 := hn.len
  have t1 : List.take 6 (MkD.mk s W).cells.tail = W.map uv := List.take_of_length_le (by show (W.map uv).length ≤ 6; simp [hl])
  have t2 : List.take 6 (MkD.mk t V).cells.tail = V.map uv := List.take_of_length_le (by show (V.map uv).length ≤ 6; simp [hk])
  rw [c1, c2, t1, t2]
  have he : ∀ w, (Op.equalIn 9999 43 (uv s) (uv t)).run Try.prog w = .ok ((s : Int) == (t : Int)) w := fun w => run_equalIn_int w 9998 43 .u64 .u64 (s : Int) (t : Int) Try.underlying43
  simp only [Sem.run_pure, Result.andThen_ok, he, h6]
  by_cases h1 : s = t
  · subst h1
    simp only [beq_self_eq_true, decide_true, Bool.true_and, Bool.true_eq_false, if_false, Result.andThen_ok, h6]
    cases decide (W = V) <;> rfl
  · have h2 : ((s : Int) == (t : Int)) = false := by rw [beq_eq_false_iff_ne]; omega
    simp only [h2, h1, decide_false, Bool.false_and, if_true, Result.andThen_ok]
theorem guard_mark : Try.prog.eqGuardType Try.prog.depth 88 = false := by kernel_rfl
theorem exec_eql_mark {o : Oper} {ev : Operand → Value} {x y : Operand} {s : TypeId} (ho : o.op = .binOp .eql 88 x y s) (m n : MkD) (hm : m.Ok) (hn : n.Ok) (hx : ev x = .agg m.cells.toArray) (hy : ev y = .agg n.cells.toArray) (w : World) :
    (execOp ev o).run Try.prog w = .ok (.value (.bool (decide (m = n)))) w := by
  have hg := guard_mark
  have hq := eql_mark m n hm hn w
  unfold execOp
  simp only [ho, hx, hy]
  simp [eqGuard, Sem.run_bind, hg, hq]
end Go.Proofs.Ytdjpeebekpjiiaa.Dk
/- MarkDown's walk. -/
namespace Go.Proofs.Ytdjpeebekpjiiaa.Dk
open Go Go.RowKit
set_option linter.unusedVariables false
set_option linter.unusedSimpArgs false
theorem seven {w : World} {g : Nat} {t : TypeId} {s a b c d e f : Nat} (h : w.heap[g]? = some (.cells (MkD.mk s [a, b, c, d, e, f]).cells.toArray t (0, 0))) :
    w.cell? ⟨g, 0, none⟩ = some (.int .u64 (s : Int)) ∧ w.cell? ⟨g, 1, none⟩ = some (.int .u64 (a : Int)) ∧ w.cell? ⟨g, 2, none⟩ = some (.int .u64 (b : Int)) ∧ w.cell? ⟨g, 3, none⟩ = some (.int .u64 (c : Int)) ∧ w.cell? ⟨g, 4, none⟩ = some (.int .u64 (d : Int)) ∧ w.cell? ⟨g, 5, none⟩ = some (.int .u64 (e : Int)) ∧ w.cell? ⟨g, 6, none⟩ = some (.int .u64 (f : Int)) := by
  have hc := fun j => cell_of_row w g j _ _ _ h
  refine ⟨hc 0, hc 1, hc 2, hc 3, hc 4, hc 5, hc 6⟩
theorem six_of {mk : MkD} (h : mk.Ok) : ∃ s a b c d e f, mk = ⟨s, [a, b, c, d, e, f]⟩ := by
  obtain ⟨s, W⟩ := mk
  have hl : W.length = 6 := h.len
  match W, hl with
  | [a, b, c, d, e, f], _ => exact ⟨s, a, b, c, d, e, f, rfl⟩
theorem calm_new (n : Nat) : Calm (DS.new n) := ⟨rfl, fun _ => rfl⟩
theorem nextSeq_le (x : DS) (first : Nat) : x.nextSeq first ≤ x.great first + 2 := by
  unfold DS.nextSeq
  split <;> omega
/-- What the second Put leaves, and what is there behind the crash. -/
theorem down_facts {x : DS} (h : Calm x) (hr : 2 ≤ x.s.length) {m1 m2 : MkD} (hl : x.lastMark 0 = m1) (hok : m1.Ok) (hp : 0 < m1.seq) (hm2 : m2.Ok) (hg : x.great 0 < m2.seq) (hf : 0 ≤ x.fuse) :
    ∃ (C : Int) (bm last : MkD) (y : DS), C = (x.mark 0 m2).1 ∧ bm = pick0 C m2 ∧ y = (x.mark 0 m2).2 ∧ bm.Ok ∧ last.Ok ∧ 0 < last.seq ∧ ((C = 0 ∧ 2 ≤ x.fuse ∧ last = bm) ∨ (C = 50 ∧ x.fuse < 2 ∧ last = m1)) ∧
      (∀ i l, wfi i → y.S i = some l → y.has i = true) ∧ Calm (y.crash [] (-1) 0).up ∧ (y.crash [] (-1) 0).up.lastMark 0 = last ∧ (y.crash [] (-1) 0).s.length = x.s.length ∧ (y.crash [] (-1) 0).up.s.length = x.s.length ∧ (y.crash [] (-1) 0).down = true := by
  obtain ⟨y, hy⟩ : ∃ y, y = (x.mark 0 m2).2 := ⟨_, rfl⟩
  by_cases hz : 2 ≤ x.fuse
  · have hfi := mark_fine h (first := 0) hm2 (by omega) (.inr hz)
    rw [← hy] at hfi
    obtain ⟨e1, e2, e3, _⟩ := hfi
    have hcu := crash_up (y := y) (e2.S _) 0
    have hls := last_set h hcu.1 (first := 0) hm2 (by omega) (hcu.2.1.trans e3) hg
    have hlen : y.s.length = x.s.length := by rw [e3, List.length_set]
    refine ⟨0, m2, m2, y, e1.symm, rfl, hy, hm2, hm2, by omega, .inl ⟨rfl, hz, rfl⟩, fun i l _ hi => (by rw [e2.S] at hi; cases hi), hcu.1, hls.1, by rw [hcu.2.2.2, hlen], by rw [hcu.2.1, hlen], hcu.2.2.1⟩
  · have hfi := mark_cut h (first := 0) hm2 (by omega) (by omega)
    rw [← hy] at hfi
    obtain ⟨e1, e2, e3, e4⟩ := hfi
    have h2 : m2.seq % 2 < 2 := Nat.mod_lt _ (by decide)
    have hS : y.S (-1) = none := by
      cases hs : y.S (-1) with
      | none => rfl
      | some l => have := (e4 _ _ hs).1; unfold MkD.at_ at this; omega
    have hcu := crash_up hS 0
    have hls : (y.crash [] (-1) 0).up.lastMark 0 = m1 := by
      rw [hcu.1.last (by rw [hcu.2.1, e3]; omega), hcu.2.1, e3, ← h.last (by omega)]
      exact hl
    refine ⟨50, noM, m1, y, e1.symm, rfl, hy, noM_ok, hok, hp, .inr ⟨rfl, by omega, rfl⟩, fun i l _ hi => ?_, hcu.1, hls, by rw [hcu.2.2.2, e3], by rw [hcu.2.1, e3], hcu.2.2.1⟩
    rw [(e4 _ _ hi).1]
    unfold DS.has MkD.at_
    rw [e3]
    simp only [Bool.and_eq_true, decide_eq_true_eq]
    omega
theorem new_great : (DS.new 2).great 0 = 0 := m0_great
end Go.Proofs.Ytdjpeebekpjiiaa.Dk
/- A log's disk: its bytes, its mark. -/
namespace Go.Proofs.Ytdjpeebekpjiiaa.Dk
open Go Go.RowKit
set_option linter.unusedVariables false
set_option linter.unusedSimpArgs false
theorem lays_low {first count N : Nat} (hc : 1 ≤ count) (hN : first + count ≤ N) : ∀ (f : Nat) (x : DS) (at_ : Nat) (b : List UInt8), Good x N → ∀ j : Nat, j < first → (lays first count f x at_ b).1.read (j : Int) = x.read (j : Int)
  | 0, x, at_, b, _, j, _ => rfl
  | f + 1, x, at_, b, hg, j, hj => by
    have hs := sec_lt hc hN at_
    rw [lays]
    by_cases hb : b = []
    · rw [if_pos hb]
    · rw [if_neg hb, if_pos (hg.wcode hs)]
      have hp : (pad b).length = 128 := by unfold pad; rw [List.length_append, List.length_take, List.length_replicate]; omega
      rw [lays_low hc hN f _ _ _ (hg.write hs hp) j hj, hg.writeRead hs hp j, if_neg (by unfold sec; omega)]
theorem append_keeps2 {w : World} {r d k first count N : Nat} {S text : List UInt8} {t : TypeId} (h : RingAt w r d k first count text.length S t) (ht : text.length ≤ 4000000000)
    {g m n : Nat} {x : DS} (hD : DiskAt Try.prog w d g m n x) (hK : Keeps first count N x S text) (hN : first + count ≤ N) (hr : ¬ own3 d g m r) (hk : ¬ own3 d g m k) (hnn : n ≤ 1000000000)
    (head : Nat) (hh : head < 18446744073709551616) (ao : Option Addr) (c : Nat) (L : List (List UInt8)) (hP : Parts w (.slice ao L.length c) L) (hl : L.length ≤ 1000000) (hsum : sumLen L ≤ 900000) (hroom : sumLen L ≤ leftN head text.length count) :
    Calls Try.prog 87 #[.pointer (some ⟨r, 0, none⟩), .int .u64 (head : Int), .slice ao L.length c] w fun e w' => e = .returned (.int .i64 0) ∧
      ∃ k' S' t' x' n', RingAt w' r d k' first count (text ++ L.flatten).length S' t' ∧ ¬ own3 d g m k' ∧ k' ≠ r ∧ (k' = k ∨ w.heap.size ≤ k') ∧ DiskAt Try.prog w' d g m n' x' ∧ n' ≤ n + sumLen L + 128 ∧ Keeps first count N x' S' (text ++ L.flatten) ∧ (∀ j : Nat, j < first → x'.read (j : Int) = x.read (j : Int)) ∧ Frm (fun i => i = r ∨ own3 d g m i) w w' := by
  have hlf : L.flatten.length = sumLen L := rfl
  have hq := Nat.mod_lt text.length (show 0 < 128 by decide)
  have hql := Nat.mod_le text.length 128
  refine (append_any h (by omega) hD hr hk hnn head hh ao c L hP hl hsum).mono ?_
  rintro e w' (⟨h1, _⟩ | ⟨h0, rfl, q, rfl⟩ | ⟨h1, h2, X, hX, rfl, hD', hF, hok, hbad⟩)
  · omega
  · have e0 : L.flatten = [] := List.length_eq_zero_iff.1 (by rw [hlf]; exact h0)
    rw [e0, List.append_nil]
    exact ⟨rfl, k, S, t, x, n, h.keep rfl rfl, hk, fun e => h.ne e.symm, .inl rfl, hD.drewN q, by omega, hK, fun _ _ => rfl, (Frm.refl _ w).drewN q⟩
  · have hle : text.length % 128 + L.flatten.length ≤ count * 128 := by
      rw [hlf]
      unfold leftN at h2
      have hmm : min head text.length ≤ text.length := Nat.min_le_right _ _
      generalize min head text.length = mm at *
      clear hok hbad hF hD' hX
      omega
    obtain ⟨k1, k2⟩ := keeps_lays hK h.len h.cnt hN hle _ rfl
    have hlow := lays_low (first := first) (count := count) h.cnt hN (S.take (text.length % 128) ++ L.flatten).length x (text.length - text.length % 128) (S.take (text.length % 128) ++ L.flatten) hK.good
    have hb : (S.take (text.length % 128) ++ L.flatten).length ≤ sumLen L + 128 := by
      rw [List.length_append, List.length_take, hlf]
      omega
    rw [← hX] at k1 k2 hlow
    obtain ⟨ks, hks, hR⟩ := hok k1
    have hks3 : ¬ own3 d g m ks := fun h => by
      have := hD.dlt; have := hD.glt; have := hD.mlt
      rcases h with h | h | h <;> omega
    refine ⟨by rw [k1], ks, _, 5, X.1, _, ?_, hks3, fun e => by have := h.rlt; omega, .inr hks, hD', by omega, k2, hlow, hF⟩
    rw [List.length_append, hlf]
    exact hR
theorem keeps_same {first count N : Nat} {x x' : DS} {S T : List UInt8} (hK : Keeps first count N x S T) (hg : Good x' N) (hc : 1 ≤ count) (h : ∀ j : Nat, first ≤ j → j < first + count → x'.read (j : Int) = x.read (j : Int)) : Keeps first count N x' S T := by
  refine ⟨hg, fun i hi hr => ?_, hK.last⟩
  have := hK.bytes i hi hr
  unfold byteAt at this ⊢
  rw [h _ (by unfold sec; omega) (by unfold sec; have := Nat.mod_lt (i / 128) (show 0 < count by omega); omega)]
  exact this
theorem great_same {x x' : DS} (h : ∀ j : Nat, j < 2 → x'.read (j : Int) = x.read (j : Int)) : x'.great 0 = x.great 0 ∧ x'.lastMark 0 = x.lastMark 0 := by
  unfold DS.great DS.lastMark
  have h0 := h 0 (by decide)
  have h1 := h 1 (by decide)
  rw [show ((0 : Nat) : Int) = 0 from rfl] at h0
  rw [show ((1 : Nat) : Int) = 1 from rfl] at h1
  simp only [show ((0 + 1 : Nat) : Int) = 1 from rfl, show ((0 : Nat) : Int) = 0 from rfl, h0, h1, and_self]
theorem mark_good {x : DS} {N : Nat} (hg : Good x N) (hc : Calm x) (h2 : 2 ≤ N) {mk : MkD} (hm : mk.Ok) : (x.mark 0 mk).1 = 0 ∧ Good (x.mark 0 mk).2 N ∧ Calm (x.mark 0 mk).2 ∧ (x.mark 0 mk).2.s = x.s.set (0 + mk.seq % 2) (layM mk) ∧ ∀ j : Nat, 2 ≤ j → j < N → (x.mark 0 mk).2.read (j : Int) = x.read (j : Int) := by
  obtain ⟨m1, m2, m3, m4⟩ := mark_fine hc (first := 0) hm (by rw [hg.n]; omega) (.inl (by rw [hg.fu]; decide))
  rw [hg.fu, if_pos (by decide)] at m4
  have hlen : (x.mark 0 mk).2.s.length = N := by rw [m3, List.length_set, hg.n]
  have hlm := layM_length hm.len
  have G : Good (x.mark 0 mk).2 N := ⟨m2.up, m4, hlen, fun b hb => by
    rw [m3] at hb
    rcases List.mem_or_eq_of_mem_set hb with hb | rfl
    · exact hg.len b hb
    · exact hlm, fun i l h => by rw [m2.S] at h; cases h⟩
  refine ⟨m1, G, m2, m3, fun j h2j hjN => ?_⟩
  have e1 := m2.read (i := j) (by rw [hlen]; exact hjN)
  have e2 := hc.read (i := j) (by rw [hg.n]; exact hjN)
  have c1 := (G.read hjN).1
  have c2 := (hg.read hjN).1
  have hz := Nat.mod_lt mk.seq (show 0 < 2 by decide)
  rw [m3, getD_set_ne' (by omega)] at e1
  exact Prod.ext (by rw [e1, e2]) (by rw [c1, c2])
theorem flush_calm {x : DS} {N : Nat} (hg : Good x N) : Calm x.flush := by
  have h := hg.flush.1
  refine ⟨h.up, fun i => ?_⟩
  unfold DS.flush
  rw [if_neg (by rw [hg.up]; decide), if_neg (by rw [hg.fu]; decide)]
/-- A log's disk, between two calls. -/
structure LogD (x : DS) (N count : Nat) (T : List UInt8) (begin gr : Nat) : Prop where
  keeps : ∃ S, Keeps 2 count N x S T
  calm : Calm x
  cnt : 1 ≤ count
  fit : 2 + count ≤ N
  mark : (T = [] ∧ begin = 0 ∧ (x.lastMark 0).seq = 0) ∨ (0 < (x.lastMark 0).seq ∧ (x.lastMark 0).W = [begin, T.length, 0, 0, 0, 0])
  great : x.great 0 ≤ gr
  le : begin ≤ T.length
theorem LogD.good {x : DS} {N count : Nat} {T : List UInt8} {begin gr : Nat} (h : LogD x N count T begin gr) : Good x N := by
  obtain ⟨S, hS⟩ := h.keeps
  exact hS.good
theorem zz_last : lastM zeros zeros 2 = noM := by decide +kernel
theorem zz_great : greatN zeros zeros 2 = 0 := by decide +kernel
theorem new_zero {n j : Nat} (hj : j < n) : ((DS.new n).read (j : Int)).1 = zeros := by
  have h := (calm_new n).read (i := j) (by simpa [DS.new] using hj)
  rw [h]
  simp [DS.new, List.getD, hj]
theorem logD_new {N count : Nat} (hc : 1 ≤ count) (hN : 2 + count ≤ N) : LogD (DS.new N) N count [] 0 0 := by
  have e0 := new_zero (n := N) (j := 0) (by omega)
  have e1 := new_zero (n := N) (j := 1) (by omega)
  refine ⟨⟨[], keeps_nil (good_new N)⟩, calm_new N, hc, hN, .inl ⟨rfl, rfl, ?_⟩, ?_, Nat.le_refl _⟩
  · unfold DS.lastMark
    rw [e0, e1, zz_last]
    rfl
  · unfold DS.great
    rw [e0, e1, zz_great]
    exact Nat.le_refl _
/-- What a mark that was put makes of a log's disk. -/
theorem logD_put {x x1 : DS} {N count : Nat} {T F S1 : List UInt8} {begin gr b' : Nat} (h : LogD x N count T begin gr) (hK : Keeps 2 count N x1 S1 (T ++ F)) (hlow : ∀ j : Nat, j < 2 → x1.read (j : Int) = x.read (j : Int)) (hgr : gr ≤ 1000000000) (hb : b' ≤ (T ++ F).length) (ht : (T ++ F).length < 18446744073709551616) :
    x1.fcode = 0 ∧ x1.flush.great 0 ≤ 18446744073709551613 ∧ (x1.flush.mark 0 (x1.flush.next 0 [b', (T ++ F).length])).1 = 0 ∧ LogD (x1.flush.mark 0 (x1.flush.next 0 [b', (T ++ F).length])).2 N count (T ++ F) b' (gr + 2) := by
  obtain ⟨f1, f2, f3⟩ := hK.good.flush
  have hfl : ∀ j : Nat, j < 2 → x1.flush.read (j : Int) = x.read (j : Int) := fun j hj => (f3 j (by have := h.fit; omega)).trans (hlow j hj)
  have hgs := great_same hfl
  have hgle : x1.flush.great 0 ≤ gr := by rw [hgs.1]; exact h.great
  obtain ⟨n1, n2⟩ := next_ok (x := x1.flush) (first := 0) (ws := [b', (T ++ F).length]) (by simp) (by
    intro u hu
    simp only [List.mem_cons, List.not_mem_nil, or_false] at hu
    rcases hu with rfl | rfl <;> omega) (by omega)
  have hcalm := flush_calm hK.good
  obtain ⟨m1, m2, m3, m4, m5⟩ := mark_good f1 hcalm (by have := h.fit; omega) n1
  obtain ⟨l1, l2⟩ := last_set hcalm m3 (first := 0) n1 (by rw [f1.n]; have := h.fit; omega) m4 n2
  have hseq : (x1.flush.next 0 [b', (T ++ F).length]).seq ≤ x1.flush.great 0 + 2 := nextSeq_le x1.flush 0
  refine ⟨f2, by omega, m1, ⟨⟨S1, ?_⟩, m3, h.cnt, h.fit, .inr ⟨by rw [l1]; omega, by rw [l1]; rfl⟩, by rw [l2]; omega, hb⟩⟩
  exact keeps_same (keeps_same hK f1 h.cnt fun j _ hj => f3 j (by have := h.fit; omega)) m2 h.cnt fun j hj hj2 => m5 j hj (by have := h.fit; omega)
end Go.Proofs.Ytdjpeebekpjiiaa.Dk
/- segments, openRing, lay, put. -/
namespace Go.Proofs.Ytdjpeebekpjiiaa.Dk
open Go Go.RowKit
set_option linter.unusedVariables false
set_option linter.unusedSimpArgs false
section
variable {w : World} {d g m n : Nat} {x : DS}
theorem wsegments_any (h : DiskAt Try.prog w d g m n x) (h2 : 2 ≤ x.s.length) : Calls Try.prog 31 #[.pointer (some ⟨d, 0, none⟩)] w fun e w' => e = .returned (.int .i64 (((x.s.length - 2) / 16 : Nat) : Int)) ∧ w = w' := by
  have SC := Lib.hid (sectors_any h)
  have hf := h.few
  obtain ⟨N, hN⟩ : ∃ N, N = x.s.length := ⟨_, rfl⟩
  rw [← hN] at SC h2 hf ⊢
  clear h hN
  have e : (((N - 2) / 16 : Nat) : Int) = ((N : Int) - 2) / 16 := by omega
  rw [e]
  go_enter Try.func31, Try.ntmps31
  go_wp2_with (with_reducible refine SC.out.mono ?_; rintro e w2 ⟨rfl, rfl⟩)
  go_ret
  exact ⟨rfl, rfl⟩
theorem wopenRing_any {N count : Nat} {T : List UInt8} {begin gr : Nat} (h : DiskAt Try.prog w d g m n x) (hD : LogD x N count T begin gr) (hc : count = (N - 2) / 16 * 16) (ht : T.length ≤ 4000000000) :
    Calls Try.prog 33 #[.pointer (some ⟨d, 0, none⟩), .int .u64 (T.length : Int)] w fun e w' => ∃ r k S, e = .returned (.tuple #[.pointer (some ⟨r, 0, none⟩), .int .i64 0]) ∧ RingAt w' r d k 2 count T.length S 112 ∧ Keeps 2 count N x S T ∧ Below w.heap.size w w' ∧ w.heap.size ≤ r ∧ w.heap.size ≤ k := by
  obtain ⟨S0, hS0⟩ := hD.keeps
  have hcnt := hD.cnt
  have hfit := hD.fit
  have hn := hS0.good.n
  have hfw := h.few
  have SG := wsegments_any h (by rw [hn]; omega)
  rw [hn] at SG
  have OP := open_keeps (first := 2) h hS0 hcnt hfit ht
  have HSG := Lib.hid SG
  have HOP := Lib.hid OP
  obtain ⟨sg, hsg⟩ : ∃ sg, sg = (N - 2) / 16 := ⟨_, rfl⟩
  rw [← hsg] at HSG hc
  have hsb : sg ≤ 1000 := by omega
  have hci : (count : Int) = (sg : Int) * 16 := by omega
  rw [hci] at HOP
  clear SG OP hsg h hD hS0 hc
  go_enter Try.func33, Try.ntmps33
  go_wp2_with fail
  refine HSG.out.mono ?_
  rintro e w2 ⟨rfl, rfl⟩
  go_wp2_with fail
  refine HOP.out.mono ?_
  rintro e w3 ⟨r, k, S', rfl, h1, h2, h3, h4, h5⟩
  go_wp2_with fail
  go_ret2
  exact ⟨r, k, S', rfl, h1, h2, h3, h4, h5⟩
end
end Go.Proofs.Ytdjpeebekpjiiaa.Dk
