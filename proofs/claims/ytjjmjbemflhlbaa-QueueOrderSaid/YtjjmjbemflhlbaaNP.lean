/- First come, first served: QueueOrder's walk. -/
import Derived.Test.YtjjmjbemflhlbaaNL
import Derived.Test.YtjjmjbemflhlbaaNO
import Derived.Test.YtjjmjbemflhlbaaNQ
namespace Go.Proofs.Ytjjmjbemflhlbaa.Qu
open Go Go.RowKit Go.Proofs.Ytjjmjbemflhlbaa
open Go.Proofs.Ytjjmjbemflhlbaa.Hp (K3 kv KLit wf3 i64wf kv_inj)
open Go.Proofs.Ytjjmjbemflhlbaa.Dk (Frm below_drewN Frm.of_below Frm.setCell Frm.refl Frm.drewN Frm.drew Frm.transT Frm.turned Frm.trans Frm.mono Frm.setRow Frm.thenBelow Frm.below)
set_option linter.unusedVariables false
set_option linter.unusedSimpArgs false
set_option maxRecDepth 100000
set_option maxHeartbeats 4000000
/-- Numbers, each once, as they came. -/
def dd (l : List Int) : List Int := l.foldl (fun a x => if a.contains x then a else a ++ [x]) []
theorem dd_snoc (l : List Int) (x : Int) : dd (l ++ [x]) = if (dd l).contains x then dd l else dd l ++ [x] := by simp [dd, List.foldl_append]
theorem ddF_len : ∀ (l a : List Int), (l.foldl (fun a x => if a.contains x then a else a ++ [x]) a).length ≤ a.length + l.length
  | [], a => Nat.le_refl _
  | y :: l, a => by
    rw [List.foldl_cons]
    refine Nat.le_trans (ddF_len l _) ?_
    split
    · simp
    · simp; omega
theorem ddF_mem : ∀ (l a : List Int) (x : Int), x ∈ l.foldl (fun a x => if a.contains x then a else a ++ [x]) a → x ∈ a ∨ x ∈ l
  | [], a, x, h => .inl h
  | y :: l, a, x, h => by
    rw [List.foldl_cons] at h
    rcases ddF_mem l _ x h with h | h
    · split at h
      · exact .inl h
      · rcases List.mem_append.1 h with h | h
        · exact .inl h
        · exact .inr (by rw [List.mem_singleton.1 h]; simp)
    · exact .inr (by simp [h])
theorem dd_len (l : List Int) : (dd l).length ≤ l.length := Nat.le_trans (ddF_len l []) (by simp)
theorem dd_mem (l : List Int) : ∀ x ∈ dd l, x ∈ l := fun x hx => (ddF_mem l [] x hx).elim (fun h => by cases h) id
/-- Activities of run 1. -/
def tw (l : List Int) : List Tk := l.map fun id => ((1, 2, id), 0)
theorem tw_len (l : List Int) : (tw l).length = l.length := by simp [tw]
theorem tw_app (a b : List Int) : tw (a ++ b) = tw a ++ tw b := by simp [tw]
theorem tw_has (l : List Int) (x : Int) : (keysT (tw l)).contains (1, 2, x) = l.contains x := by
  induction l with
  | nil => rfl
  | cons y l ih =>
    unfold tw keysT at ih ⊢
    simp only [List.map_cons, List.contains_cons, ih]
    by_cases h : x = y
    · subst h; simp
    · have e1 : ((((1 : Int), (2 : Int), x) : K3) == (1, 2, y)) = false := by simpa using h
      have e2 : (x == y) = false := by simpa using h
      rw [e1, e2]
theorem tw_add (l : List Int) (x : Int) (hl : l.length < 128) : addR (tw l) (1, 2, x) = (if l.contains x then 5 else 0) ∧ addW (tw l) (1, 2, x) 0 = tw (if l.contains x then l else l ++ [x]) := by
  have h1 := tw_has l x
  have h2 := tw_len l
  unfold addW addR
  rw [h1, h2]
  have : ¬ l.length = 128 := by omega
  generalize l.contains x = b
  cases b <;> simp [this, tw]
theorem tw_rem (l : List Int) (x : Int) : remW (tw l) (1, 2, x) = tw (l.filter fun y => !(y == x)) := by
  unfold remW tw
  rw [List.filter_map]
  congr 1
  apply List.filter_congr
  intro y _
  simp only [Function.comp]
  by_cases h : y = x
  · subst h; simp
  · have : ((1 : Int), (2 : Int), y) ≠ (1, 2, x) := fun e => h (by injection e with _ e; injection e)
    simp [h]
/-- Those that weren't removed. -/
def lf (D gone : List Int) : List Int := D.filter fun x => !(gone.contains x)
theorem lf_snoc (D gone : List Int) (x : Int) : lf D (gone ++ [x]) = (lf D gone).filter fun y => !(y == x) := by
  unfold lf
  rw [List.filter_filter]
  apply List.filter_congr
  intro y _
  simp only [List.contains_append, List.contains_cons, List.contains_nil, Bool.or_false]
  cases gone.contains y <;> cases (y == x) <;> rfl
theorem lf_cons (x : Int) (D gone : List Int) : lf (x :: D) gone = if gone.contains x then lf D gone else x :: lf D gone := by
  unfold lf
  rw [List.filter_cons]
  cases gone.contains x <;> rfl
theorem take_snocI {L : List Int} {i : Nat} {x : Int} (h : L[i]? = some x) : L.take (i + 1) = L.take i ++ [x] := by rw [List.take_add_one, h]; rfl
theorem drop_consI {L : List Int} {i : Nat} {x : Int} (h : L[i]? = some x) : L.drop i = x :: L.drop (i + 1) := by
  rw [List.drop_eq_getElem_cons (List.getElem?_eq_some_iff.1 h).1, (List.getElem?_eq_some_iff.1 h).2]
/-- The queue, and the law's own row of numbers. -/
structure OrS (w : World) (g : Nat) (W : List Tk) (v : Value) (D : List Int) (wr : World) : Prop where
  q : ∃ T : Nat → Prop, QT wr T g W ∧ (∀ q, T q → q < wr.heap.size ∧ w.heap.size ≤ q) ∧ ∀ q, v.ownBlock = some q → ¬ T q
  row : wr.ownsRow w.heap.size 2 1 v D.length (D.map fun x => .int .i64 x)
  low : Below w.heap.size w wr
theorem OrS.call {w wr w' : World} {g : Nat} {W V : List Tk} {v : Value} {D : List Int} {T : Nat → Prop} (h : OrS w g W v D wr) (hT : ∀ q, T q → q < wr.heap.size ∧ w.heap.size ≤ q) (hv : ∀ q, v.ownBlock = some q → ¬ T q) (hp : QPost wr T g V w') : OrS w g V v D w' := by
  obtain ⟨hF, T', hQ, hT'⟩ := hp
  have hlt := h.row.lt
  refine ⟨⟨T', hQ, fun q hq => ⟨(hT' q hq).2, ?_⟩, fun q hq hqT => ?_⟩, own_keepK h.row fun q hq hlt => hF.block q hlt (hv q hq), h.low.trans (hF.below (fun q _ hq => (hT q hq).2) h.low.size)⟩
  · rcases (hT' q hq).1 with e | e
    · exact (hT q e).2
    · exact Nat.le_trans h.low.size e
  · rcases (hT' q hqT).1 with e | e
    · exact hv q hq e
    · have := hlt q hq; omega
theorem or_add {w wr : World} {g : Nat} {l : List Int} {v : Value} {D : List Int} (h : OrS w g (tw l) v D wr) (x : Int) (hx : i64wf x) (hl : l.length < 128) : Calls Try.prog 14 #[.pointer (some ⟨g, 0, none⟩), .agg #[.int .i64 1, .int .i64 2, .int .i64 x], .int .i64 0] wr fun e w' => e = .returned (.int .i64 (if l.contains x then 5 else 0)) ∧ OrS w g (tw (if l.contains x then l else l ++ [x])) v D w' := by
  obtain ⟨T, hQ, hT, hv⟩ := h.q
  have h1 := qt_add hQ (1, 2, x) ⟨rfl, rfl, hx⟩ 0 rfl
  rw [(tw_add l x hl).1, (tw_add l x hl).2] at h1
  exact h1.mono fun e w' hh => ⟨hh.1, h.call hT hv hh.2⟩
theorem or_rem {w wr : World} {g : Nat} {l : List Int} {v : Value} {D : List Int} (h : OrS w g (tw l) v D wr) (x : Int) (hx : i64wf x) : Calls Try.prog 17 #[.pointer (some ⟨g, 0, none⟩), .agg #[.int .i64 1, .int .i64 2, .int .i64 x]] wr fun e w' => e = .returned (.bool (l.contains x)) ∧ OrS w g (tw (l.filter fun y => !(y == x))) v D w' := by
  obtain ⟨T, hQ, hT, hv⟩ := h.q
  have h1 := qt_remove hQ (1, 2, x) ⟨rfl, rfl, hx⟩
  rw [tw_has, tw_rem] at h1
  exact h1.mono fun e w' hh => ⟨hh.1, h.call hT hv hh.2⟩
theorem or_take {w wr : World} {g : Nat} {x : Int} {l : List Int} {v : Value} {D : List Int} (h : OrS w g (tw (x :: l)) v D wr) : Calls Try.prog 15 #[.pointer (some ⟨g, 0, none⟩)] wr fun e w' => e = .returned (.tuple #[.agg (kcs (1, 2, x)).toArray, .bool true]) ∧ OrS w g (tw l) v D w' := by
  obtain ⟨T, hQ, hT, hv⟩ := h.q
  exact (qt_take (x := ((1, 2, x), 0)) (W := tw l) hQ).mono fun e w' hh => ⟨hh.1, h.call hT hv hh.2⟩
theorem or_len {w wr : World} {g : Nat} {l : List Int} {v : Value} {D : List Int} (h : OrS w g (tw l) v D wr) : Calls Try.prog 20 #[.pointer (some ⟨g, 0, none⟩)] wr fun e w' => e = .returned (.int .i64 (l.length : Int)) ∧ w' = wr := by
  obtain ⟨T, hQ, hT, hv⟩ := h.q
  have := qt_len hQ
  rwa [tw_len] at this
theorem OrS.below {w wr w' : World} {g : Nat} {W : List Tk} {v : Value} {D : List Int} (h : OrS w g W v D wr) (hb : Below wr.heap.size wr w') : OrS w g W v D w' := by
  obtain ⟨T, hQ, hT, hv⟩ := h.q
  exact ⟨⟨T, hQ.below hb, fun q hq => ⟨Nat.lt_of_lt_of_le (hT q hq).1 hb.size, (hT q hq).2⟩, hv⟩, own_belowK h.row hb, h.low.trans (hb.mono h.low.size)⟩
/-- One more number in the row. -/
theorem OrS.snoc {w wr w' : World} {g : Nat} {W : List Tk} {ao ao' : Option Addr} {c c' n : Nat} {D : List Int} {x : Int} (h : OrS w g W (.slice ao n c) D wr) (hn : n = D.length) (ho : w'.ownsRow w.heap.size 2 1 (.slice ao' (n + 1) c') (n + 1) (D.map (fun x => Value.int .i64 x) ++ [.int .i64 x])) (hb : Below w.heap.size wr w')
    (hk : ∀ k, k < wr.heap.size → some k ≠ (Value.slice ao n c).ownBlock → w'.heap[k]? = wr.heap[k]?) (hnew : (Value.slice ao' (n + 1) c').ownBlock = (Value.slice ao n c).ownBlock ∨ ∀ q, (Value.slice ao' (n + 1) c').ownBlock = some q → wr.heap.size ≤ q) : OrS w g W (.slice ao' (n + 1) c') (D ++ [x]) w' := by
  obtain ⟨T, hQ, hT, hv⟩ := h.q
  refine ⟨⟨T, hQ.keep fun q hq hlt => hk q hlt fun e => hv q e.symm hq, fun q hq => ⟨Nat.lt_of_lt_of_le (hT q hq).1 hb.size, (hT q hq).2⟩, fun q hq hqT => ?_⟩, ?_, h.low.trans hb⟩
  · rcases hnew with e | e
    · rw [e] at hq; exact hv q hq hqT
    · have := e q hq; have := (hT q hqT).1; omega
  · subst hn
    simpa using ho
def o1Rel (w : World) (g : Nat) (ids : List Int) (lv iv : Value) (wr : World) : Prop := ∃ (i : Nat) (ao : Option Addr) (c : Nat), i ≤ ids.length ∧ iv = .int .i64 (i : Int) ∧ lv = .slice ao (dd (ids.take i)).length c ∧ OrS w g (tw (dd (ids.take i))) (.slice ao (dd (ids.take i)).length c) (dd (ids.take i)) wr
def o2Rel (w : World) (g : Nat) (D gone : List Int) (v : Value) (iv : Value) (wr : World) : Prop := ∃ i : Nat, i ≤ gone.length ∧ iv = .int .i64 (i : Int) ∧ OrS w g (tw (lf D (gone.take i))) v D wr
def o3Rel (w : World) (g : Nat) (D gone : List Int) (v : Value) (iv : Value) (wr : World) : Prop := ∃ i : Nat, i ≤ D.length ∧ iv = .int .i64 (i : Int) ∧ OrS w g (tw (lf (D.drop i) gone)) v D wr
def o4Rel (w0 : World) (gone : List Int) (x : Int) (ov iv : Value) (wr : World) : Prop := ∃ i : Nat, i ≤ gone.length ∧ iv = .int .i64 (i : Int) ∧ ov = .bool ((gone.take i).contains x) ∧ wr = w0
theorem order_any (ao : Option Addr) (c : Nat) (ids : List Int) (ao2 : Option Addr) (c2 : Nat) (gone : List Int) (w : World) (h1 : Zs w ao ids) (h2 : Zs w ao2 gone) (hm1 : ids.length ≤ maxLen) (hm2 : gone.length ≤ maxLen) : Calls Try.prog 4 #[.slice ao ids.length c, .slice ao2 gone.length c2] w fun e w' => e = .returned (.bool true) ∧ Below w.heap.size w w' := by
  have WA := Lib.hid (waits_any w)
  have H1 := Lib.hid h1
  have H2 := Lib.hid h2
  clear h1 h2
  by_cases hb : 120 < ids.length ∨ 50 < gone.length
  · rcases hb with hb | hb
    · have hb' : (120 : Int) < (ids.length : Int) := by omega
      go_enter Try.func4, Try.ntmps4
      go_wp2_with (with_reducible refine WA.out.mono ?_; rintro e w1 ⟨rfl, hb1⟩)
      go_ret
      exact ⟨rfl, hb1⟩
    · have hb' : (50 : Int) < (gone.length : Int) := by omega
      by_cases hc : 120 < ids.length
      · have hc' : (120 : Int) < (ids.length : Int) := by omega
        go_enter Try.func4, Try.ntmps4
        go_wp2_with (with_reducible refine WA.out.mono ?_; rintro e w1 ⟨rfl, hb1⟩)
        go_ret
        exact ⟨rfl, hb1⟩
      · have hc' : ¬ (120 : Int) < (ids.length : Int) := by omega
        go_enter Try.func4, Try.ntmps4
        go_wp2_with (with_reducible refine WA.out.mono ?_; rintro e w1 ⟨rfl, hb1⟩)
        go_ret
        exact ⟨rfl, hb1⟩
  · have hl1 : ids.length ≤ 120 := by omega
    have hl2 : gone.length ≤ 50 := by omega
    have hc1 : ¬ (120 : Int) < (ids.length : Int) := by omega
    have hc2 : ¬ (50 : Int) < (gone.length : Int) := by omega
    clear hb hm1 hm2
    go_enter Try.func4, Try.ntmps4
    go_upto_region 6 with (with_reducible refine WA.out.mono ?_; rintro e w1 ⟨rfl, hb1⟩)
    obtain ⟨w2, hw2⟩ : ∃ x, x = w1.alloc (.cells #[.pointer none, .pointer none, .map none] 29) := ⟨_, rfl⟩
    obtain ⟨g, hg⟩ : ∃ g, g = w1.heap.size := ⟨_, rfl⟩
    rw [← hw2, ← hg]
    have S2 := Lib.hid (show OrS w g [] (.slice none 0 0) [] w2 from by
      have hs : w2.heap.size = w1.heap.size + 1 := by rw [hw2]; simp
      refine ⟨⟨fun q => q = g, by rw [hw2, hg]; exact QT.new w1, fun q hq => ⟨by omega, by have := hb1.size; omega⟩, (fun q hq => by cases hq)⟩, World.ownsRow_nil _ _ _ _, hb1.trans ?_⟩
      rw [hw2]
      exact (Below.refl _ _).alloc hb1.size _)
    clear hw2 hg hb1 WA
    go_wp2_with fail
    go_loopw [6, 30] (fun lv iv wr => o1Rel w g ids lv iv wr) (fun _ iv _ => ids.length - (intOf iv).toNat)
    case atStart => exact ⟨0, none, 0, by omega, rfl, rfl, S2.out⟩
    case round =>
      obtain ⟨wq, rfl⟩ : ∃ wq : World, wq = wr := ⟨_, rfl⟩
      obtain ⟨i, ao3, c3, hi, rfl, rfl, hS⟩ := hrel
      by_cases hin : i < ids.length
      · have hin2 : (i : Int) < (ids.length : Int) := by omega
        have h0 : (0 : Int) ≤ (i : Int) := by omega
        obtain ⟨x, hx⟩ : ∃ x, ids[i]? = some x := ⟨_, List.getElem?_eq_getElem hin⟩
        obtain ⟨ad, rfl⟩ : ∃ ad, ao = some ad := by
          cases ao with
          | none => have := H1.out.none rfl; rw [this] at hin; simp at hin
          | some ad => exact ⟨ad, rfl⟩
        have cx := (H1.out.below hS.low (Nat.le_refl _)).cell ad rfl i x hx
        have hwx : i64wf x := H1.out.wf x (List.mem_of_getElem? hx)
        obtain ⟨D, hD⟩ : ∃ D, D = dd (ids.take i) := ⟨_, rfl⟩
        have hD2 : dd (ids.take (i + 1)) = if D.contains x then D else D ++ [x] := by rw [take_snocI hx, dd_snoc, hD]
        rw [← hD] at hS ⊢
        have hDl : D.length ≤ 120 := by rw [hD]; exact Nat.le_trans (dd_len _) (by rw [List.length_take]; omega)
        have AD := Lib.hid (or_add hS x hwx (by omega))
        have HD2 := Lib.hid hD2
        clear hS hD hD2 hx
        cases hcon : D.contains x with
        | true =>
          rw [hcon] at HD2 AD
          rw [if_pos rfl] at HD2
          rw [if_pos rfl, if_pos rfl] at AD
          clear hcon
          go_wp2_with (with_reducible refine AD.out.mono ?_; rintro e w3 ⟨rfl, hS3⟩)
          exact ⟨⟨i + 1, ao3, c3, by omega, rfl, by rw [HD2.out], by rw [HD2.out]; exact hS3⟩, by simp [intOf]; omega⟩
        | false =>
          rw [hcon] at HD2 AD
          rw [if_neg (by decide)] at HD2
          rw [if_neg (by decide), if_neg (by decide)] at AD
          clear hcon
          obtain ⟨n, hn⟩ : ∃ n, n = D.length := ⟨_, rfl⟩
          rw [← hn] at AD ⊢
          have HN := Lib.hid hn
          have hn1 : n ≤ 120 := by omega
          clear hn
          go_upto_region 11 with (with_reducible refine AD.out.mono ?_; rintro e w3 ⟨rfl, hS3⟩)
          have HR := Lib.hid (show w3.ownsRow w.heap.size 2 1 (.slice ao3 n c3) n (D.map fun x => Value.int .i64 x) from by
            have := hS3.row
            rwa [← HN.out] at this)
          have HS3 := Lib.hid hS3
          have HL3 := Lib.hid hS3.low.size
          clear hS3
          go_wp2_with (at_builtin; refine wpList_apK2 rfl (.tmp 38) (.tmp 40) 53 2 1 8 (.int .i64 0) rfl Try.underlying53 (by kernel_rfl) (by decide) rfl w.heap.size _ _ _ _ rfl HR.out HL3.out [.int .i64 x] rfl (by intro u hu; rw [List.mem_singleton.1 hu]; rfl) rfl (by omega) ?_)
          intro ao' c' w' hown' hb' hk' hnew'
          have S4 := Lib.hid (HS3.out.snoc (x := x) HN.out hown' hb' hk' (by
            rcases hnew' with e | e
            · exact .inl e
            · exact .inr fun q hq => by rw [e] at hq; injection hq with hq; omega))
          clear hown' hb' hk' hnew' cx
          have e1 : (D ++ [x]).length = n + 1 := by rw [HN.out]; simp
          have RL := Lib.hid (show o1Rel w g ids (.slice ao' (n + 1) c') (.int .i64 ((i + 1 : Nat) : Int)) w' from ⟨i + 1, ao', c', by omega, rfl, by rw [HD2.out, e1], by rw [HD2.out, e1]; exact S4.out⟩)
          clear e1
          go_wp2_with fail
          exact ⟨RL.out, by simp [intOf]; omega⟩
      · obtain rfl : i = ids.length := by omega
        have hin2 : ¬ (ids.length : Int) < (ids.length : Int) := by omega
        rw [List.take_length] at hS ⊢
        obtain ⟨D, hD⟩ : ∃ D, D = dd ids := ⟨_, rfl⟩
        have hDl : D.length ≤ 120 := by rw [hD]; exact Nat.le_trans (dd_len _) hl1
        have hDw : ∀ x ∈ D, i64wf x := fun x hx => H1.out.wf x (dd_mem _ x (by rw [← hD]; exact hx))
        rw [← hD] at hS ⊢
        have S3 := Lib.hid hS
        have HDW := Lib.hid hDw
        clear hS hD hDw hi hin S2
        go_wp2_with fail
        go_loopw [45] (fun iv wr => o2Rel w g D gone (.slice ao3 D.length c3) iv wr) (fun iv _ => gone.length - (intOf iv).toNat)
        case atStart => exact ⟨0, by omega, rfl, by
          have : lf D [] = D := by simp [lf]
          rw [List.take_zero, this]; exact S3.out⟩
        case round =>
          obtain ⟨wp, rfl⟩ : ∃ wp : World, wp = wr := ⟨_, rfl⟩
          obtain ⟨i, hi, rfl, hS⟩ := hrel
          by_cases hin : i < gone.length
          · have hin2 : (i : Int) < (gone.length : Int) := by omega
            have h0 : (0 : Int) ≤ (i : Int) := by omega
            obtain ⟨x, hx⟩ : ∃ x, gone[i]? = some x := ⟨_, List.getElem?_eq_getElem hin⟩
            obtain ⟨ad, rfl⟩ : ∃ ad, ao2 = some ad := by
              cases ao2 with
              | none => have := H2.out.none rfl; rw [this] at hin; simp at hin
              | some ad => exact ⟨ad, rfl⟩
            have cx := (H2.out.below hS.low (Nat.le_refl _)).cell ad rfl i x hx
            have RM := Lib.hid (or_rem hS x (H2.out.wf x (List.mem_of_getElem? hx)))
            rw [← lf_snoc, ← take_snocI hx] at RM
            clear hS hx
            go_wp2_with (with_reducible refine RM.out.mono ?_; rintro e w3 ⟨rfl, hS3⟩)
            exact ⟨⟨i + 1, by omega, rfl, hS3⟩, by simp [intOf]; omega⟩
          · obtain rfl : i = gone.length := by omega
            have hin2 : ¬ (gone.length : Int) < (gone.length : Int) := by omega
            rw [List.take_length] at hS
            have S4 := Lib.hid hS
            clear hS S3 hi hin
            go_wp2_with fail
            go_loopw [55] (fun iv wr => o3Rel w g D gone (.slice ao3 D.length c3) iv wr) (fun iv _ => D.length - (intOf iv).toNat)
            case atStart => exact ⟨0, by omega, rfl, S4.out⟩
            case round =>
              obtain ⟨wo, rfl⟩ : ∃ wo : World, wo = wr := ⟨_, rfl⟩
              obtain ⟨p, hp, rfl, hS⟩ := hrel
              by_cases hpn : p < D.length
              · have hpn2 : (p : Int) < (D.length : Int) := by omega
                have h0 : (0 : Int) ≤ (p : Int) := by omega
                obtain ⟨x, hx⟩ : ∃ x, D[p]? = some x := ⟨_, List.getElem?_eq_getElem hpn⟩
                obtain ⟨gp, hgp, _, _, cx⟩ := own_cellK hS.row (j := p) (u := .int .i64 x) (by rw [List.getElem?_map, hx]; rfl)
                subst hgp
                rw [drop_consI hx, lf_cons] at hS
                have HS := Lib.hid hS
                have HG2 := Lib.hid (H2.out.below hS.low (Nat.le_refl _))
                clear hS hx
                go_wp2_with fail
                go_loopw [13, 61] (fun ov iv wr => o4Rel wo gone x ov iv wr) (fun _ iv _ => gone.length - (intOf iv).toNat)
                case atStart => exact ⟨0, by omega, rfl, rfl, rfl⟩
                case round =>
                  obtain ⟨k, hk, rfl, rfl, rfl⟩ := hrel
                  by_cases hkn : k < gone.length
                  · have hkn2 : (k : Int) < (gone.length : Int) := by omega
                    have h0 : (0 : Int) ≤ (k : Int) := by omega
                    obtain ⟨y, hy⟩ : ∃ y, gone[k]? = some y := ⟨_, List.getElem?_eq_getElem hkn⟩
                    obtain ⟨ad, rfl⟩ : ∃ ad, ao2 = some ad := by
                      cases ao2 with
                      | none => have := H2.out.none rfl; rw [this] at hkn; simp at hkn
                      | some ad => exact ⟨ad, rfl⟩
                    have cy := HG2.out.cell ad rfl k y hy
                    have hc : (gone.take (k + 1)).contains x = ((gone.take k).contains x || (x == y)) := by
                      rw [take_snocI hy, List.contains_append]
                      simp only [List.contains_cons, List.contains_nil, Bool.or_false]
                    obtain ⟨B, hB⟩ : ∃ B, B = (gone.take k).contains x := ⟨_, rfl⟩
                    rw [← hB] at hc ⊢
                    have HC := Lib.hid hc
                    clear hc hB hy
                    cases B with
                    | true =>
                      go_wp2_with fail
                      exact ⟨⟨k + 1, by omega, rfl, by rw [HC.out]; rfl, rfl⟩, by simp [intOf]; omega⟩
                    | false =>
                      by_cases hyx : y = x
                      · subst hyx
                        go_wp2_with fail
                        exact ⟨⟨k + 1, by omega, rfl, by rw [HC.out]; simp, rfl⟩, by simp [intOf]; omega⟩
                      · have hyx2 : (y == x) = false := by simpa using hyx
                        have hxy : (x == y) = false := by simpa using Ne.symm hyx
                        rw [hxy] at HC
                        clear hxy
                        go_wp2_with fail
                        exact ⟨⟨k + 1, by omega, rfl, by rw [HC.out]; rfl, rfl⟩, by simp [intOf]; omega⟩
                  · obtain rfl : k = gone.length := by omega
                    have hkn2 : ¬ (gone.length : Int) < (gone.length : Int) := by omega
                    rw [List.take_length]
                    obtain ⟨B, hB⟩ : ∃ B, B = gone.contains x := ⟨_, rfl⟩
                    rw [← hB] at HS ⊢
                    clear hB hk hkn cx
                    cases B with
                    | true =>
                      rw [if_pos rfl] at HS
                      go_wp2_with fail
                      exact ⟨⟨p + 1, by omega, rfl, HS.out⟩, by simp [intOf]; omega⟩
                    | false =>
                      rw [if_neg (by decide)] at HS
                      have TK := Lib.hid (or_take HS.out)
                      have SZ := Lib.hid (show (Try.prog.info? 32).map (·.size) = some (kcs (1, 2, x)).toArray.size by kernel_rfl)
                      have OK := Lib.hid (kcs_one (1, 2, x))
                      go_upto_region 29 with (first
                        | (with_reducible refine TK.out.mono ?_; rintro e w3 ⟨rfl, hS3⟩)
                        | (with_reducible show wpList _ _ _ _ _ _; refine wpList_store_newW rfl 32 (.tmp 16) (.tmp 75) rfl 32 _ (kcs (1, 2, x)).toArray (by with_unfolding_all rfl) (by with_unfolding_all rfl) SZ.out rfl OK.out ?_))
                      obtain ⟨w4, hw4⟩ : ∃ u, u = w3.alloc (.cells (kcs (1, 2, x)).toArray 32) := ⟨_, rfl⟩
                      obtain ⟨g4, hg4⟩ : ∃ x, x = w3.heap.size := ⟨_, rfl⟩
                      rw [← hw4, ← hg4]
                      have b4 : Below w3.heap.size w3 w4 := by rw [hw4]; exact (Below.refl _ _).alloc (Nat.le_refl _) _
                      have k4 : w4.cell? ⟨g4, 2, none⟩ = some (.int .i64 x) := by rw [cell_of_row w4 g4 2 _ _ _ (show w4.heap[g4]? = _ by rw [hw4, hg4]; exact heap_alloc_new _ _)]; rfl
                      have S5 := Lib.hid (hS3.below b4)
                      clear hw4 hg4 b4 hS3 TK
                      go_wp2_with fail
                      exact ⟨⟨p + 1, by omega, rfl, S5.out⟩, by simp [intOf]; omega⟩
              · obtain rfl : p = D.length := by omega
                have hpn2 : ¬ (D.length : Int) < (D.length : Int) := by omega
                rw [List.drop_length] at hS
                have LE := Lib.hid (or_len (l := []) hS)
                have HS := Lib.hid hS
                clear hS hp hpn
                go_wp2_with (with_reducible refine LE.out.mono ?_; rintro e w3 ⟨rfl, rfl⟩)
                go_ret
                exact ⟨rfl, HS.out.low⟩
end Go.Proofs.Ytjjmjbemflhlbaa.Qu
