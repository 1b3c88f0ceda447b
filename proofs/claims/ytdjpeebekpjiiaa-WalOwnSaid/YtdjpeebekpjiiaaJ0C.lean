/- A region that draws its order: a head of operations that only read (calls may draw), then a tail in forced order. -/
import Derived.Deep.QuietTactic
import Derived.BigQuiet
import Derived.StillTail
import Derived.Test.YtdjpeebekpjiiaaJ0B
import Derived.Maps.RangeWalk
import Derived.OwnWalk
namespace Go.Proofs.Ytdjpeebekpjiiaa
open Go
section
variable {P : Program} {ops : Array Oper} {C : World → Prop}

/-- The operations of these numbers, one behind the other. -/
def quietAlong (P : Program) (ops : Array Oper) (C : World → Prop) (Q : Act → Prop) : List Nat → Act → Prop
  | [], a => Q a
  | i :: l, a => qOp P ops C i (quietAlong P ops C Q l) a

theorem quietAlong_of {Q : Act → Prop} : ∀ (l : List Oper) (k : Nat) (a : Act), (∀ j, j < l.length → l[j]? = ops[k + j]?) → wpQuiet P ops C Q l a → quietAlong P ops C Q (List.range' k l.length) a
  | [], _, _, _, h => h
  | o :: l, k, a, hl, h => by
    have h0 : ops[k]? = some o := by simpa using (hl 0 (by simp)).symm
    have h1 : qOp P ops C k (wpQuiet P ops C Q l) a := by unfold qOp; simp only [h0]; exact h
    exact qOp_mono (fun a' h' => quietAlong_of l (k + 1) a' (fun j hj => by have := hl (j + 1) (by simp; omega); simpa [Nat.add_assoc, Nat.add_comm 1 j] using this) h') h1

/-- One of them is taken ahead of those that stand before it, if it is apart from them. -/
theorem quietAlong_ahead {Q : Act → Prop} (hs : Region.noSelect ops = true) {i : Nat} {oi : Oper} (hi : ops[i]? = some oi) : ∀ (l : List Nat) (a : Act), l.Nodup → i ∈ l →
    (∀ k ∈ l, ∃ ok, ops[k]? = some ok ∧ (k < i → ok.apart ops oi = true)) → l.Pairwise (· < ·) → quietAlong P ops C Q l a → qOp P ops C i (quietAlong P ops C Q (l.erase i)) a
  | [], _, _, hm, _, _, _ => by cases hm
  | k :: l, a, hnd, hm, hap, hp, h => by
    by_cases hk : k = i
    · subst hk
      rw [List.erase_cons_head]
      exact h
    · have hml : i ∈ l := by
        cases hm with
        | head => exact absurd rfl hk
        | tail _ h' => exact h'
      obtain ⟨ok, hok, hka⟩ := hap k (by simp)
      have hki : k < i := (List.pairwise_cons.1 hp).1 i hml
      obtain ⟨v, hy, hK⟩ := yieldsIn_of_qOp hok h
      have ih := quietAlong_ahead hs hi l _ (List.nodup_cons.1 hnd).2 hml (fun k' hk' => hap k' (List.mem_cons_of_mem _ hk')) (List.pairwise_cons.1 hp).2 hK
      have h2 := qOp_put hi (hka hki) (fun cs b => Region.noSelect_spec hs k ok cs b hok) (fun cs b => Region.noSelect_spec hs i oi cs b hi) hy ih
      rw [List.erase_cons_tail (by simpa using hk)]
      exact qOp_mono (fun a' h' => h'.1.qOp hok h'.2) h2

/-- Each of the first n waits for earlier ones alone; and of two of them the later one waits for the other, or they are apart. -/
def headOk (ops : Array Oper) (n : Nat) : Bool :=
  (List.range n).all fun i => match ops[i]? with
    | none => false
    | some oi => (oi.after.all fun e => !Region.binds .any e || decide (e.on < i)) && (List.range i).all fun k => (oi.after.any fun e => Region.binds .any e && e.on == k) || (match ops[k]? with | some ok => ok.apart ops oi | none => false)
def listedTo (m n : Nat) : Array Bool := ((List.range m).map (fun j => decide (j < n))).toArray
def tailOk (ops : Array Oper) (n : Nat) : Bool :=
  Region.noSelect ops && decide (n < ops.size) && Region.sinkB .any ops n && Region.chainB .any ops n && headOk ops n && Region.seqB .any ops (ops.size - n) n (listedTo ops.size n)

theorem headOk_spec {n i : Nat} (h : headOk ops n = true) (hi : i < n) : ∃ oi, ops[i]? = some oi ∧ (∀ e ∈ oi.after, Region.binds .any e = true → e.on < i) ∧
    ∀ k, k < i → (∃ e ∈ oi.after, Region.binds .any e = true ∧ e.on = k) ∨ ∃ ok, ops[k]? = some ok ∧ ok.apart ops oi = true := by
  have h1 := List.all_eq_true.1 h i (List.mem_range.2 hi)
  split at h1
  · cases h1
  · rename_i oi hoi
    simp only [Bool.and_eq_true] at h1
    refine ⟨oi, hoi, fun e he hb => ?_, fun k hk => ?_⟩
    · have := Array.all_eq_true'.1 h1.1 e he
      simpa [hb] using this
    · have := List.all_eq_true.1 h1.2 k (List.mem_range.2 hk)
      simp only [Bool.or_eq_true] at this
      rcases this with h2 | h2
      · obtain ⟨e, he, hb⟩ := Array.any_eq_true'.1 h2
        simp only [Bool.and_eq_true, beq_iff_eq] at hb
        exact .inl ⟨e, he, hb.1, hb.2⟩
      · split at h2
        · rename_i ok hok; exact .inr ⟨ok, hok, h2⟩
        · cases h2

theorem head_then {Q : Act → Prop} {Q' : Exit → Act → World → Prop} {n g : Nat} (hs : Region.noSelect ops = true) (hn : n < ops.size) (hsk : Region.sinkB .any ops n = true) (hch : Region.chainB .any ops n = true) (hh : headOk ops n = true)
    (hQ : ∀ a w, C w → Q a → wpAny P .any ops Q' g (listedTo ops.size n) a w) :
    ∀ (f : Nat) (l : List Nat) (listed : Array Bool) (a : Act) (w : World), l.length = f → C w → HeadInv .any ops n listed → l.Pairwise (· < ·) → (∀ k ∈ l, k < n) →
      (∀ k, k < n → (listed.getD k true = false ↔ k ∈ l)) → quietAlong P ops C Q l a → wpAny P .any ops Q' (f + g) listed a w := by
  intro f
  induction f with
  | zero =>
    intro l listed a w hf hw inv _ _ hl h
    have hl0 : l = [] := List.length_eq_zero_iff.1 hf
    subst hl0
    have he : listed = listedTo ops.size n := by
      apply Array.ext
      · simp [inv.size, listedTo]
      · intro j h1 h2
        have hb : listed[j] = listed.getD j true := by simp [h1]
        have hjs : j < ops.size := by rw [← inv.size]; exact h1
        rw [hb]
        have e2 : (listedTo ops.size n)[j] = decide (j < n) := by simp [listedTo]
        rw [e2]
        by_cases hj : j < n
        · have := hl j hj
          simp only [List.not_mem_nil, iff_false, Bool.not_eq_false] at this
          simp [this, hj]
        · rw [inv.tail j (by omega) hjs]; simp [hj]
    rw [he, Nat.zero_add]
    exact hQ a w hw h
  | succ f ih =>
    intro l listed a w hf hw inv hp hln hl h
    have hnd : l.Nodup := hp.imp (fun h => Nat.ne_of_lt h)
    rw [show f + 1 + g = (f + g) + 1 by omega]
    obtain ⟨k0, l0, rfl⟩ : ∃ k0 l0, l = k0 :: l0 := by
      cases l with
      | nil => cases hf
      | cons k0 l0 => exact ⟨k0, l0, rfl⟩
    have hk0 : k0 < n := hln k0 (by simp)
    have hun0 := (hl k0 hk0).2 (by simp)
    refine ⟨fun h0 => ?_, fun i hi => ?_⟩
    · exfalso
      obtain ⟨o0, ho0, haf, _⟩ := headOk_spec hh hk0
      have : k0 ∈ Region.ready .any ops listed := mem_ready.2 ⟨hun0, o0, ho0, fun e he hb => by
        have hlt := haf e he hb
        have hon : e.on ∉ k0 :: l0 := by
          intro hmem
          rcases List.mem_cons.1 hmem with h1 | h1
          · omega
          · have := (List.pairwise_cons.1 hp).1 _ h1; omega
        have h2 := mt (hl e.on (by omega)).1 hon
        have hsz : e.on < listed.size := by rw [inv.size]; omega
        simp [hsz] at h2 ⊢
        exact h2⟩
      rw [h0] at this
      cases this
    · have hin : i < n := by
        rcases Nat.lt_or_ge i n with h' | h'
        · exact h'
        · exact absurd hi (tail_waits hsk hch hn inv _ k0 rfl hk0 hun0 i h')
      obtain ⟨hiu, oi, hoi, hall⟩ := mem_ready.1 hi
      have him := (hl i hin).1 hiu
      have hq := quietAlong_ahead hs hoi (k0 :: l0) a hnd him (fun k hk => by
        have hkn := hln k hk
        obtain ⟨ok, hok, _, _⟩ := headOk_spec hh hkn
        refine ⟨ok, hok, fun hki => ?_⟩
        obtain ⟨oi', hoi', _, hw2⟩ := headOk_spec hh hin
        obtain rfl : oi' = oi := Option.some.inj (hoi'.symm.trans hoi)
        rcases hw2 k hki with ⟨e, he, hb, hon⟩ | ⟨ok', hok', hap⟩
        · have h1 := hall e he hb
          have h2 := (hl k hkn).2 hk
          rw [hon, getD_both h2] at h1
          cases h1
        · obtain rfl : ok' = ok := Option.some.inj (hok'.symm.trans hok)
          exact hap) hp h
      refine wpOp_of_qOp hw (fun a' w' hw' h' => ih ((k0 :: l0).erase i) (listed.setIfInBounds i true) a' w' ?_ hw' (inv.set hi hin) (hp.sublist List.erase_sublist) (fun k hk => hln k (List.mem_of_mem_erase hk)) ?_ h') hq
      · rw [List.length_erase_of_mem him, hf]; rfl
      · intro k hk
        by_cases hki : i = k
        · subst hki
          have hsz : i < listed.size := by rw [inv.size]; omega
          constructor
          · intro h1
            simp [hsz] at h1
          · intro h1
            exact absurd h1 (List.Nodup.not_mem_erase hnd)
        · rw [getD_set_ne true hki, hl k hk, List.Nodup.mem_erase_iff hnd]
          exact ⟨fun h1 => ⟨Ne.symm hki, h1⟩, fun h1 => h1.2⟩

theorem wp_region_quiet_tail {id : Nat} {Q : Exit → Act → World → Prop} {a : Act} {w : World} {l : List Oper} (n : Nat) (hm : P.follows .mixedOrders = true) (hB : tailOk l.toArray n = true)
    (h : wpQuiet P l.toArray (fun w' => ∃ m, w' = w.drewN m) (fun a' => ∀ w', (∃ m, w' = w.drewN m) → wpList P l.toArray Q (l.drop n) a' w') (l.take n) a) : (Code.region id l.toArray true).wp P Q a w := by
  simp only [tailOk, Bool.and_eq_true, decide_eq_true_eq] at hB
  obtain ⟨⟨⟨⟨⟨hs, hn⟩, hsk⟩, hch⟩, hh⟩, hseq⟩ := hB
  have hn' : n < l.length := by simpa using hn
  have htl : (l.take n).length = n := by simp; omega
  have hdl : (l.drop n).length = l.toArray.size - n := by simp
  have inv0 : HeadInv .any l.toArray n (Array.replicate l.toArray.size false) :=
    ⟨by simp, fun j oj _ hl => (by rw [getD_replicate_false] at hl; cases hl), fun t _ ht => getD_in (by simpa using ht) (getD_replicate_false _ _)⟩
  have hq := quietAlong_of (ops := l.toArray) (l.take n) 0 a (fun j hj => by
    have hj' : j < n := by rw [htl] at hj; exact hj
    simp [hj']) h
  rw [htl] at hq
  refine wp_region_any hm ?_
  have := head_then (C := fun w' => ∃ m, w' = w.drewN m) (Q' := Q) (g := l.toArray.size - n) hs hn hsk hch hh (fun a' w' hw' hL => by
    have := wpAny_of_seq (md := .any) (Q' := Q) (l.drop n) n (listedTo l.toArray.size n) a' w' (fun j => by simp [List.getElem?_drop]) (by rw [hdl]; exact hseq) (hL w' hw')
    rwa [hdl] at this) n (List.range' 0 n) (Array.replicate l.toArray.size false) a _ (by simp) ⟨1, rfl⟩ inv0 (by simpa using (List.pairwise_lt_range' (s := 0) (n := n) (step := 1))) (fun k hk => by simp at hk; omega)
    (fun k hk => ⟨fun _ => by simp; omega, fun _ => by have : k < l.length := by omega
                                                       simp [this]⟩) hq
  rw [show n + (l.toArray.size - n) = l.toArray.size by omega] at this
  exact this
/-! Operation 0 only moves a slot that is not written here: it may come up anywhere ahead of what waits for it, also within the tail. -/
def sinkF (ops : Array Oper) (n : Nat) : Bool :=
  (List.range n).all fun i => i == 0 || (List.range (n + 1)).any fun j => decide (i < j) && Region.waitsFor .any ops j i
def movesFirst (ops : Array Oper) : Bool :=
  match ops[0]? with
  | some o => o.guard.isNone && (match o.op with | .move _ => true | _ => false) && (o.after.all fun e => !Region.binds .any e) &&
      (List.range ops.size).all fun j => j == 0 || Region.waitsFor .any ops j 0 || (match ops[j]? with | some oj => o.apart ops oj | none => true)
  | none => false
def tailOkF (ops : Array Oper) (n : Nat) : Bool :=
  Region.noSelect ops && decide (n < ops.size) && decide (0 < n) && sinkF ops n && Region.chainB .any ops n && headOk ops n && Region.seqB .any ops (ops.size - n) n (listedTo ops.size n) && movesFirst ops

theorem tail_waitsF {n : Nat} {listed : Array Bool} (hs : sinkF ops n = true) (hc : Region.chainB .any ops n = true) (hn : n < ops.size) (inv : HeadInv .any ops n listed) (h0 : listed.getD 0 true = true) :
    ∀ (d i : Nat), n - i = d → i < n → listed.getD i true = false → ∀ t, n ≤ t → t ∉ Region.ready .any ops listed := by
  intro d
  induction d using Nat.strongRecOn with
  | _ d ih =>
    intro i hd hi hun t ht hr
    obtain ⟨_, ot, hot, hall⟩ := mem_ready.1 hr
    have htlt : t < ops.size := (Array.getElem?_eq_some_iff.1 hot).1
    by_cases htn : t = n
    · subst htn
      have h1 := List.all_eq_true.1 hs i (List.mem_range.2 hi)
      have hi0 : i ≠ 0 := fun h => by rw [h, h0] at hun; cases hun
      simp only [Bool.or_eq_true, beq_iff_eq, hi0, false_or] at h1
      obtain ⟨j, hj, hj2⟩ := List.any_eq_true.1 h1
      simp only [Bool.and_eq_true, decide_eq_true_eq] at hj2
      obtain ⟨oj, hoj, e, he, hb, hon⟩ := Region.waitsFor_spec hj2.2
      have hjle : j ≤ t := by have := List.mem_range.1 hj; omega
      by_cases hjt : j = t
      · subst hjt
        have : oj = ot := Option.some.inj (hoj.symm.trans hot)
        subst this
        have h2 := hall e he hb
        rw [hon, getD_both hun] at h2
        cases h2
      · cases hl : listed.getD j false with
        | true =>
          have h2 := inv.closed j oj hoj hl e he hb
          rw [hon, getD_both hun] at h2
          cases h2
        | false =>
          have hjs : j < listed.size := by rw [inv.size]; omega
          exact ih (t - j) (by omega) j rfl (by omega) (getD_in hjs hl) t (Nat.le_refl _) hr
    · have h1 := List.all_eq_true.1 hc t (List.mem_range.2 htlt)
      simp only [Bool.or_eq_true, decide_eq_true_eq] at h1
      rcases h1 with h1 | h1
      · omega
      · obtain ⟨o', ho', e, he, hb, hon⟩ := Region.waitsFor_spec h1
        have : o' = ot := Option.some.inj (ho'.symm.trans hot)
        subst this
        have h2 := hall e he hb
        rw [hon, getD_both (inv.tail (t - 1) (by omega) (by omega))] at h2
        cases h2

theorem head_thenF {I : Array Bool → Prop} {Q : Act → Prop} {Q' : Exit → Act → World → Prop} {n g : Nat} (hs : Region.noSelect ops = true) (hn : n < ops.size) (htw : ∀ listed, HeadInv .any ops n listed → I listed → ∀ (d i : Nat), n - i = d → i < n → listed.getD i true = false → ∀ t, n ≤ t → t ∉ Region.ready .any ops listed) (hI : ∀ (listed : Array Bool) (i : Nat), I listed → I (listed.setIfInBounds i true)) (hh : headOk ops n = true)
    (hQ : ∀ a w, C w → Q a → wpAny P .any ops Q' g (listedTo ops.size n) a w) :
    ∀ (f : Nat) (l : List Nat) (listed : Array Bool) (a : Act) (w : World), l.length = f → C w → HeadInv .any ops n listed → I listed → l.Pairwise (· < ·) → (∀ k ∈ l, k < n) →
      (∀ k, k < n → (listed.getD k true = false ↔ k ∈ l)) → quietAlong P ops C Q l a → wpAny P .any ops Q' (f + g) listed a w := by
  intro f
  induction f with
  | zero =>
    intro l listed a w hf hw inv _ _ _ hl h
    have hl0 : l = [] := List.length_eq_zero_iff.1 hf
    subst hl0
    have he : listed = listedTo ops.size n := by
      apply Array.ext
      · simp [inv.size, listedTo]
      · intro j h1 h2
        have hb : listed[j] = listed.getD j true := by simp [h1]
        have hjs : j < ops.size := by rw [← inv.size]; exact h1
        rw [hb]
        have e2 : (listedTo ops.size n)[j] = decide (j < n) := by simp [listedTo]
        rw [e2]
        by_cases hj : j < n
        · have := hl j hj
          simp only [List.not_mem_nil, iff_false, Bool.not_eq_false] at this
          simp [this, hj]
        · rw [inv.tail j (by omega) hjs]; simp [hj]
    rw [he, Nat.zero_add]
    exact hQ a w hw h
  | succ f ih =>
    intro l listed a w hf hw inv hil hp hln hl h
    have hnd : l.Nodup := hp.imp (fun h => Nat.ne_of_lt h)
    rw [show f + 1 + g = (f + g) + 1 by omega]
    obtain ⟨k0, l0, rfl⟩ : ∃ k0 l0, l = k0 :: l0 := by
      cases l with
      | nil => cases hf
      | cons k0 l0 => exact ⟨k0, l0, rfl⟩
    have hk0 : k0 < n := hln k0 (by simp)
    have hun0 := (hl k0 hk0).2 (by simp)
    refine ⟨fun h0 => ?_, fun i hi => ?_⟩
    · exfalso
      obtain ⟨o0, ho0, haf, _⟩ := headOk_spec hh hk0
      have : k0 ∈ Region.ready .any ops listed := mem_ready.2 ⟨hun0, o0, ho0, fun e he hb => by
        have hlt := haf e he hb
        have hon : e.on ∉ k0 :: l0 := by
          intro hmem
          rcases List.mem_cons.1 hmem with h1 | h1
          · omega
          · have := (List.pairwise_cons.1 hp).1 _ h1; omega
        have h2 := mt (hl e.on (by omega)).1 hon
        have hsz : e.on < listed.size := by rw [inv.size]; omega
        simp [hsz] at h2 ⊢
        exact h2⟩
      rw [h0] at this
      cases this
    · have hin : i < n := by
        rcases Nat.lt_or_ge i n with h' | h'
        · exact h'
        · exact absurd hi (htw listed inv hil _ k0 rfl hk0 hun0 i h')
      obtain ⟨hiu, oi, hoi, hall⟩ := mem_ready.1 hi
      have him := (hl i hin).1 hiu
      have hq := quietAlong_ahead hs hoi (k0 :: l0) a hnd him (fun k hk => by
        have hkn := hln k hk
        obtain ⟨ok, hok, _, _⟩ := headOk_spec hh hkn
        refine ⟨ok, hok, fun hki => ?_⟩
        obtain ⟨oi', hoi', _, hw2⟩ := headOk_spec hh hin
        obtain rfl : oi' = oi := Option.some.inj (hoi'.symm.trans hoi)
        rcases hw2 k hki with ⟨e, he, hb, hon⟩ | ⟨ok', hok', hap⟩
        · have h1 := hall e he hb
          have h2 := (hl k hkn).2 hk
          rw [hon, getD_both h2] at h1
          cases h1
        · obtain rfl : ok' = ok := Option.some.inj (hok'.symm.trans hok)
          exact hap) hp h
      refine wpOp_of_qOp hw (fun a' w' hw' h' => ih ((k0 :: l0).erase i) (listed.setIfInBounds i true) a' w' ?_ hw' (inv.set hi hin) (hI _ _ hil) (hp.sublist List.erase_sublist) (fun k hk => hln k (List.mem_of_mem_erase hk)) ?_ h') hq
      · rw [List.length_erase_of_mem him, hf]; rfl
      · intro k hk
        by_cases hki : i = k
        · subst hki
          have hsz : i < listed.size := by rw [inv.size]; omega
          constructor
          · intro h1
            simp [hsz] at h1
          · intro h1
            exact absurd h1 (List.Nodup.not_mem_erase hnd)
        · rw [getD_set_ne true hki, hl k hk, List.Nodup.mem_erase_iff hnd]
          exact ⟨fun h1 => ⟨Ne.symm hki, h1⟩, fun h1 => h1.2⟩


theorem wp_region_quiet_tail_f {id : Nat} {Q : Exit → Act → World → Prop} {a : Act} {w : World} {l : List Oper} (n : Nat) (hm : P.follows .mixedOrders = true) (hB : tailOkF l.toArray n = true)
    (h : wpQuiet P l.toArray (fun w' => ∃ m, w' = w.drewN m) (fun a' => ∀ w', (∃ m, w' = w.drewN m) → wpList P l.toArray (fun e a w => e = .normal ∧ Q .normal a w) (l.drop n) a' w') (l.take n) a) : (Code.region id l.toArray true).wp P Q a w := by
  simp only [tailOkF, Bool.and_eq_true, decide_eq_true_eq] at hB
  obtain ⟨⟨⟨⟨⟨⟨⟨hs, hn⟩, hn0⟩, hsk⟩, hch⟩, hh⟩, hseq⟩, hmv⟩ := hB
  have hn' : n < l.length := by simpa using hn
  obtain ⟨o0, rest, rfl⟩ : ∃ o0 rest, l = o0 :: rest := by
    cases l with
    | nil => simp at hn'
    | cons o0 rest => exact ⟨o0, rest, rfl⟩
  obtain ⟨k, rfl⟩ : ∃ k, n = k + 1 := ⟨n - 1, by omega⟩
  have ho0 : (o0 :: rest).toArray[0]? = some o0 := by simp
  simp only [movesFirst, ho0, Bool.and_eq_true] at hmv
  obtain ⟨⟨⟨hg, hx⟩, haf⟩, hfree⟩ := hmv
  obtain ⟨x, hox⟩ : ∃ x, o0.op = .move x := by
    split at hx
    · rename_i x hx'; exact ⟨x, hx'⟩
    · cases hx
  have hwant : ∀ y, Region.wanted o0 y = true := fun y => by
    unfold Region.wanted
    cases hgg : o0.guard with
    | none => rfl
    | some _ => rw [hgg] at hg; cases hg
  have hrun : ∀ (a : Act) (w : World), (execOp a.eval o0).run P w = .ok (.value (a.eval x)) w := fun a w => by
    have : execOp a.eval o0 = pure (.value (a.eval x)) := by
      unfold execOp
      rw [hox]
    rw [this]
    rfl
  simp only [List.take_succ_cons, List.drop_succ_cons] at h
  have h' : wpQuiet P (o0 :: rest).toArray (fun w' => ∃ m, w' = w.drewN m) (fun a' => ∀ w', (∃ m, w' = w.drewN m) → wpList P (o0 :: rest).toArray (fun e a w => e = .normal ∧ Q .normal a w) (rest.drop k) a' w') (rest.take k) (a.put o0.dst (a.eval x)) := by
    have h1 : o0.quiet P a (fun w' => ∃ m, w' = w.drewN m) (wpQuiet P (o0 :: rest).toArray (fun w' => ∃ m, w' = w.drewN m) (fun a' => ∀ w', (∃ m, w' = w.drewN m) → wpList P (o0 :: rest).toArray (fun e a w => e = .normal ∧ Q .normal a w) (rest.drop k) a' w') (rest.take k)) := by
      have h0 := h
      unfold wpQuiet at h0
      rw [hwant, if_pos rfl] at h0
      exact h0
    obtain ⟨v, hv, h2⟩ := h1
    have h3 := hv (w.drewN 1) ⟨1, rfl⟩
    unfold Oper.quietAt at h3
    rw [hrun] at h3
    rw [h3.2]
    exact h2
  refine Code.wp_mono (Q := fun e a w => e = .normal ∧ Q .normal a w) (fun e a w hq => by obtain ⟨rfl, hq⟩ := hq; exact hq) ?_
  refine wp_region_any hm ?_
  have hsz : (o0 :: rest).toArray.size = (k + ((o0 :: rest).toArray.size - (k + 1))) + 1 := by simp at hn' ⊢; omega
  have hz : ∀ j, (Array.replicate (o0 :: rest).toArray.size false).getD j false = false := fun j => getD_replicate_false _ _
  rw [show wpAny P .any (o0 :: rest).toArray (fun e a w => e = .normal ∧ Q .normal a w) (o0 :: rest).toArray.size = wpAny P .any (o0 :: rest).toArray (fun e a w => e = .normal ∧ Q .normal a w) ((k + ((o0 :: rest).toArray.size - (k + 1))) + 1) from congrArg _ hsz]
  have hsel : ∀ (j : Nat) (o : Oper) cs b, (o0 :: rest).toArray[j]? = some o → o.op ≠ .select cs b := fun j o cs b ho => Region.noSelect_spec hs j o cs b ho
  refine wpAny_first (i := 0) (v := a.eval x) ho0 hsel (fun c a w hq => absurd hq.1 (by intro h; cases h)) _ _ _ _ ?_ ?_ (.inl ⟨hwant _, fun w => hrun a w⟩) ?_
  · intro j oj hoj hj0 _ hno
    have hjs : j < (o0 :: rest).toArray.size := (Array.getElem?_eq_some_iff.1 hoj).1
    have h1 := List.all_eq_true.1 hfree j (List.mem_range.2 hjs)
    simp only [Bool.or_eq_true, beq_iff_eq, hj0, false_or, hoj] at h1
    rcases h1 with h1 | h1
    · obtain ⟨oj', hoj', e, he, hb, hon⟩ := Region.waitsFor_spec h1
      obtain rfl : oj' = oj := Option.some.inj (hoj'.symm.trans hoj)
      exact absurd hon (hno e he hb)
    · exact h1
  · refine mem_ready.2 ⟨getD_in (by simp) (hz 0), o0, ho0, fun e he hb => ?_⟩
    have h1 := Array.all_eq_true'.1 haf e he
    rw [hb] at h1
    cases h1
  · have htl : (rest.take k).length = k := by simp at hn' ⊢; omega
    have hdl : (rest.drop k).length = (o0 :: rest).toArray.size - (k + 1) := by simp
    have hq := quietAlong_of (ops := (o0 :: rest).toArray) (rest.take k) 1 _ (fun j hj => by
      have hj' : j < k := by rw [htl] at hj; exact hj
      rw [Nat.add_comm 1 j]
      simp [hj']) h'
    rw [htl] at hq
    have hsz0 : 0 < (Array.replicate (o0 :: rest).toArray.size false).size := by simp
    have inv0 : HeadInv .any (o0 :: rest).toArray (k + 1) ((Array.replicate (o0 :: rest).toArray.size false).setIfInBounds 0 true) := by
      refine HeadInv.set ⟨by simp, fun j oj _ hl => (by rw [hz] at hl; cases hl), fun t _ ht => getD_in (by simpa using ht) (hz _)⟩ (mem_ready.2 ⟨getD_in (by simp) (hz 0), o0, ho0, fun e he hb => ?_⟩) (by omega)
      have h1 := Array.all_eq_true'.1 haf e he
      rw [hb] at h1
      cases h1
    refine head_thenF (C := fun w' => ∃ m, w' = w.drewN m) (I := fun li => li.getD 0 true = true) hs hn (fun li inv h0 => tail_waitsF hsk hch hn inv h0) ?_ hh (fun a' w' hw' hL => by
      have := wpAny_of_seq (md := .any) (Q' := fun e a w => e = .normal ∧ Q .normal a w) (rest.drop k) (k + 1) (listedTo (o0 :: rest).toArray.size (k + 1)) a' w' (fun j => by simp [List.getElem?_drop]; rw [show k + 1 + j = (k + j) + 1 by omega, List.getElem?_cons_succ]) (by rw [hdl]; exact hseq) (hL w' hw')
      rwa [hdl] at this) k (List.range' 1 k) _ _ _ (by simp) ⟨1, rfl⟩ inv0 ?_ (by simpa using (List.pairwise_lt_range' (s := 1) (n := k) (step := 1))) (fun i hi => by simp at hi; omega) ?_ hq
    · intro li i h0
      by_cases hi : i = 0
      · subst hi
        by_cases hs0 : 0 < li.size
        · simp [hs0]
        · simp [show li.size = 0 by omega]
      · rw [getD_set_ne true hi]; exact h0
    · simp
    · intro i hi
      by_cases hi0 : i = 0
      · subst hi0
        simp
      · rw [getD_set_ne true (Ne.symm hi0)]
        have his : i < (o0 :: rest).length := by omega
        constructor
        · intro _; simp; omega
        · intro _; exact getD_in (by simpa using his) (hz i)
end
end Go.Proofs.Ytdjpeebekpjiiaa
/- What a disk's calls Write, Flush and New leave. -/
namespace Go.Proofs.Ytdjpeebekpjiiaa.Dk
open Go Go.RowKit
set_option linter.unusedVariables false
set_option linter.unusedSimpArgs false

theorem Frm.range {T : Nat → Prop} {w w' : World} (h : Frm T w w') {k o : Nat} {cs : List Value} (hr : w.rangeAt k o cs) (hk : ¬ T k) : w'.rangeAt k o cs := by
  intro j v hv
  have h1 := hr j v hv
  have hlt := block_lt_of_cell h1
  exact (World.cell?_of_block (a := ⟨k, o + j, none⟩) (h.block k hlt hk)).trans h1
variable {w : World} {d g m n : Nat} {x : DS}
theorem upd_eq (S : Int → Option (List UInt8)) (i : Int) (l : List UInt8) : (fun y => if y = i then some l else S y) = upd S i l := rfl
theorem run_arrayAt {P : Program} {t e : TypeId} {k : Nat} (hu : P.underlying t = some (.array k e)) (p : Addr) (n c : Nat) (hn : k ≤ n) (w : World) : (Instr.arrayAt t (.slice (some p) n c)).run P w = .ok (.pointer (some p)) w := by
  unfold Instr.arrayAt
  simp [run_underlying hu, Result.andThen]
  omega
set_option maxRecDepth 100000 in
set_option maxHeartbeats 2000000 in
theorem write_any (h : DiskAt Try.prog w d g m n x) (hn : n < maxLen) (i : Int) (hw : wfi i) (ao : Option Addr) (b : List UInt8) (c : Nat) (hb : ∀ k o, ao = some ⟨k, o, none⟩ → w.rangeAt k o (bvs b)) (hform : b.length = 128 → ∃ k o, ao = some ⟨k, o, none⟩ ∧ ¬ own3 d g m k) :
    Calls Try.prog 103 #[.pointer (some ⟨d, 0, none⟩), .int .i64 i, .slice ao b.length c] w fun e w' => e = .returned (.int .i64 (x.wcode i b.length)) ∧ DiskAt Try.prog w' d g m (n + 1) (x.write i b) ∧ Frm (own3 d g m) w w' := by
  have c5 := h.c5
  have H1 := Lib.hid (h.mono (Nat.le_succ n))
  unfold DS.write DS.wcode
  by_cases hd : x.down = true
  · rw [if_pos hd, if_pos hd]
    rw [hd] at c5
    clear h
    go_enter Try.func103, Try.ntmps103
    go_wp2_with fail
    go_ret
    exact ⟨rfl, H1.out, Frm.refl _ _⟩
  rw [if_neg hd, if_neg hd]
  have hd' : x.down = false := by simpa using hd
  rw [hd'] at c5
  have HA := Lib.hid (has_any h i)
  by_cases hh : x.has i = false
  · rw [if_pos hh, if_pos hh]
    rw [hh] at HA
    clear h
    go_enter Try.func103, Try.ntmps103
    go_wp2_with (go_at_call 47; refine HA.out.mono ?_; rintro e w' ⟨rfl, rfl⟩)
    go_ret
    exact ⟨rfl, H1.out, Frm.refl _ _⟩
  rw [if_neg hh, if_neg hh]
  have ht : x.has i = true := by simpa using hh
  rw [ht] at HA
  by_cases h2 : 128 < b.length
  · rw [if_pos h2, if_pos h2]
    have h2i : (128 : Int) < (b.length : Int) := by omega
    clear h
    go_enter Try.func103, Try.ntmps103
    go_wp2_with (go_at_call 47; refine HA.out.mono ?_; rintro e w' ⟨rfl, rfl⟩)
    go_ret
    exact ⟨rfl, H1.out, Frm.refl _ _⟩
  rw [if_neg h2, if_neg h2]
  have h2i : ¬ (128 : Int) < (b.length : Int) := by omega
  by_cases h3 : b.length < 128
  · rw [if_pos h3, if_pos h3]
    have h3i : (b.length : Int) < 128 := by omega
    clear h
    go_enter Try.func103, Try.ntmps103
    go_wp2_with (go_at_call 47; refine HA.out.mono ?_; rintro e w' ⟨rfl, rfl⟩)
    go_ret
    exact ⟨rfl, H1.out, Frm.refl _ _⟩
  rw [if_neg h3, if_neg h3]
  have hl : b.length = 128 := by omega
  have HP := Lib.hid (spend_any h)
  by_cases h0 : x.fuse = 0
  · rw [if_pos h0, if_pos h0]
    rw [if_pos h0] at HP
    clear h h2 h3
    rw [hl] at h2i ⊢
    go_enter Try.func103, Try.ntmps103
    go_wp2_with (first | (go_at_call 47; refine HA.out.mono ?_; rintro e w' ⟨rfl, rfl⟩) | (go_at_call 101; refine HP.out.mono ?_; rintro e w' ⟨rfl, hD, hF⟩))
    go_ret
    exact ⟨rfl, hD.mono (Nat.le_succ n), hF⟩
  rw [if_neg h0, if_neg h0]
  rw [if_neg h0] at HP
  obtain ⟨k, o, rfl, hkd⟩ := hform hl
  have hr := hb k o rfl
  obtain ⟨q1, q2, q3, q4, q5⟩ := DS.spend_ok h0
  clear h h2 h3 hb hform
  rw [hl] at h2i ⊢
  go_enter Try.func103, Try.ntmps103
  go_wp2_with (first | (go_at_call 47; refine HA.out.mono ?_; rintro e w' ⟨rfl, rfl⟩) | (go_at_call 101; refine HP.out.mono ?_; rintro e w1 ⟨rfl, hD, hF⟩))
  have c3 := hD.c3
  have hr1 : w1.rangeAt k o (bvs b) := hF.range hr hkd
  have hbl : (Try.prog.info? 112).map (·.size) = some (bvs b).length := by rw [bvs_length, hl]; exact Try.sec128
  have MP := hD.map
  rw [q2] at MP
  have HD := Lib.hid hD
  clear hD
  have har := fun w => run_arrayAt Try.underlying112 ⟨k, o, none⟩ 128 c (Nat.le_refl _) w
  refine wp_region_quiet_tail 8 (by kernel_rfl) (by kernel_rfl) ?_
  simp only [List.take_succ_cons, List.take_zero, List.drop_succ_cons, List.drop_zero]
  (repeat (go_big_quiet_step (fail)))
  refine wpQuiet_load_mid rfl 112 (.tmp 37) rfl k o rfl (bvs b) _ (fun w' hw' => by obtain ⟨_, rfl⟩ := hw'; exact hr1) Try.underlying112 rfl hbl ?_
  refine wpQuiet_nil ?_
  intro _ hw'
  obtain ⟨nq, hw''⟩ := hw'
  subst hw''
  go_wp2_with (at_mapUpdate; refine wpList_put _ rfl _ _ _ 59 rfl Try.underlying3 Try.underlying59 rfl MP hn rfl hw hl rfl ?_)
  intro w2 HM ht
  have hD2 := (HD.out.drewN nq).setMap ht HM
  have hF2 := (hF.drewN nq).turned ht (.inl (.inr (.inr rfl)))
  have HC := Lib.hid (countWrite_any hD2)
  dsimp only at HC
  rw [q4] at HC
  clear MP HD hD2 HM ht har hr1 hr c3 hF
  go_wp2_with (go_at_call 117; refine HC.out.mono ?_; rintro e w3 ⟨rfl, hD3, hF3⟩)
  go_ret
  exact ⟨rfl, hD3, hF2.trans hF3⟩
end Go.Proofs.Ytdjpeebekpjiiaa.Dk
/- What disk.New makes. -/
namespace Go.Proofs.Ytdjpeebekpjiiaa.Dk
open Go Go.RowKit
set_option linter.unusedVariables false
set_option linter.unusedSimpArgs false

theorem Try.infoSec : (Try.prog.info? 112).map (fun i => (i.zero, i.size, i.bytes)) = some (some (.agg (bvs zeros).toArray), 128, 128) := by kernel_rfl
def DS.new (n : Nat) : DS := ⟨List.replicate n zeros, fun _ => none, -1, false, 0, 0, n, []⟩
theorem bvs_zeros : bvs zeros = List.replicate 128 (.int .u8 0) := by simp [bvs, zeros, bv]
theorem flat_zeros : ∀ n : Nat, flat (List.replicate n zeros) = List.replicate (n * 128) (.int .u8 0)
  | 0 => rfl
  | n + 1 => by
    have ih := flat_zeros n
    unfold flat at ih ⊢
    rw [List.replicate_succ, List.map_cons, List.flatten_cons, ih, bvs_zeros, List.replicate_append_replicate]
    congr 1
    omega
theorem made_repl (k N : Nat) (hk : 0 < k) (v : Value) : (madeCells (List.replicate k v).toArray N).toList = List.replicate N v := by
  apply List.ext_getElem
  · simp [madeCells]
  · intro i h1 h2
    have : i % k < k := Nat.mod_lt _ hk
    simp [madeCells, getElem!_def, this]
theorem made_zeros (n : Nat) : (madeCells (bvs zeros).toArray (n * 128)).toList = flat (List.replicate n zeros) := by
  rw [flat_zeros, bvs_zeros]
  exact made_repl 128 _ (by decide) _
set_option maxRecDepth 100000 in
theorem new_any (n : Nat) (h1 : 1 ≤ n) (h2 : n ≤ 4096) (w : World) : Calls Try.prog 11 #[.int .i64 (n : Int)] w fun e w' => ∃ d g m, e = .returned (.tuple #[.pointer (some ⟨d, 0, none⟩), .int .i64 0]) ∧ DiskAt Try.prog w' d g m 0 (DS.new n) ∧ Below w.heap.size w w' ∧ w.heap.size ≤ d ∧ w.heap.size ≤ g ∧ w.heap.size ≤ m := by
  obtain ⟨i0, hi, hz0, hz1, hz2⟩ := info_parts Try.infoSec
  have e1 : ¬ (n : Int) < 1 := by omega
  have e2 : ¬ (4096 : Int) < (n : Int) := by omega
  have hmm := @run_makeMap Try.prog
  go_enter Try.func11, Try.ntmps11
  go_wp2_with (at_make; refine wpList_make_full _ rfl _ _ 58 rfl 0 112 i0 _ 128 Try.underlying58 hi hz0 hz1 _ _ _ _ n rfl rfl rfl rfl (by rw [hz2]; omega) (by unfold maxLen; omega) (by omega) ?_)
  intro w1 hown hgrow
  go_wp2_with fail
  go_ret2
  have hs := hgrow.size
  rcases hown.2 with ⟨e, _⟩ | ⟨g, cap, cur, e, _, hb, hc1, hc2, hc3, hc4⟩
  · cases e
  · injection e with e3 e4 e5
    cases e3
    subst e5
    have hcur : cur = (flat (List.replicate n zeros)).toArray := by
      rw [← made_zeros, ← hc4, List.take_of_length_le (by simp [hc3])]
    subst hcur
    have hlt : w.heap.size < w1.heap.size := lt_of_row hb
    have b1 : Below w.heap.size w w1 := (Frm.refl (fun _ => False) w).grown hgrow (by intro j e; cases e) |>.below (fun _ _ h => h.elim) (Nat.le_refl _)
    refine ⟨_, w.heap.size, w1.heap.size, rfl, ⟨?_, ?_, ?_, ?_, by omega, by simpa [DS.new] using h2, show wfi (-1) from (by unfold wfi; decide), show wfi 0 from (by unfold wfi; decide), show wfi 0 from (by unfold wfi; decide)⟩, (b1.alloc (by omega) _).alloc (by simp; omega) _, by omega, Nat.le_refl _, by omega⟩
    · have := heap_alloc_new (w1.alloc (.map #[] 0)) (.cells #[.int .i64 0, .int .i64 0, .slice (some ⟨w.heap.size, 0, none⟩) n n, .map (some w1.heap.size), .int .i64 (-1), .bool false] 61)
      simpa [DS.new] using this
    · have := (Below.heap_alloc (w1.alloc (.map #[] 0)) (.cells #[.int .i64 0, .int .i64 0, .slice (some ⟨w.heap.size, 0, none⟩) n n, .map (some w1.heap.size), .int .i64 (-1), .bool false] 61) w.heap.size (by simp; omega)).trans ((Below.heap_alloc w1 (.map #[] 0) w.heap.size hlt).trans hb)
      rw [← List.append_nil (flat (List.replicate n zeros))] at this
      exact this
    · exact (MapIs.made w1).alloc _
    · intro b hb
      rw [List.eq_of_mem_replicate hb]
      exact zeros_length
end Go.Proofs.Ytdjpeebekpjiiaa.Dk
/- What a disk's call Flush leaves. -/
namespace Go.Proofs.Ytdjpeebekpjiiaa.Dk
open Go Go.RowKit
set_option linter.unusedVariables false
set_option linter.unusedSimpArgs false

variable {w : World} {d g m n : Nat} {x : DS}
theorem laid_start (s : List (List UInt8)) (S : Int → Option (List UInt8)) : laid s S (fun i => (S i).isSome) = s := by
  unfold laid
  apply List.ext_getElem?
  intro i
  rw [List.getElem?_mapIdx]
  cases s[i]? with
  | none => rfl
  | some b => cases h : S (i : Int) <;> simp [h]
theorem laid_length (s : List (List UInt8)) (S : Int → Option (List UInt8)) (left : Int → Bool) : (laid s S left).length = s.length := by simp [laid]
theorem laid_step {s : List (List UInt8)} {S : Int → Option (List UInt8)} {left : Int → Bool} {i : Nat} {l : List UInt8} (hS : S (i : Int) = some l) : (laid s S left).set i l = laid s S (fun y => left y && !decide (y = (i : Int))) := by
  unfold laid
  apply List.ext_getElem?
  intro j
  rw [List.getElem?_set, List.length_mapIdx, List.getElem?_mapIdx, List.getElem?_mapIdx]
  by_cases h : i = j
  · subst h
    rw [if_pos rfl]
    by_cases hi : i < s.length
    · simp [hi, hS]
    · simp [hi]
  · rw [if_neg h]
    have : decide ((j : Int) = (i : Int)) = false := by simp; omega
    simp [this]
theorem laid_end {s : List (List UInt8)} {S : Int → Option (List UInt8)} {left : Int → Bool} (hs : s.length ≤ 4096) (h : ∀ x, wfi x → left x = false) : laid s S left = laid s S (fun _ => false) := by
  unfold laid
  apply List.ext_getElem?
  intro j
  rw [List.getElem?_mapIdx, List.getElem?_mapIdx]
  by_cases hj : j < s.length
  · have := h (j : Int) (WalkArith.wf_i64 (by omega))
    simp [this]
  · simp [hj]
/-- What the loop of Flush keeps. -/
def FlRel (w1 : World) (d g m n r : Nat) (z : DS) (wr : World) : Prop :=
  ∃ left cnt, MapRange Try.prog 3 wr m r n z.S left cnt ∧ DiskAt Try.prog wr d g m n { z with s := laid z.s z.S left } ∧ Frm (own3 d g m) w1 wr
theorem DiskAt.few' {P : Program} {w : World} {d g m n : Nat} {z : DS} {S : Int → Option (List UInt8)} {left : Int → Bool} (h : DiskAt P w d g m n { z with s := laid z.s S left }) : z.s.length ≤ 4096 := by
  have := h.few
  dsimp only at this
  rwa [laid_length] at this
theorem MapRange.dist {P : Program} {k : TypeId} {w : World} {m r n cnt : Nat} {S : Int → Option (List UInt8)} {left : Int → Bool} (h : MapRange P k w m r n S left cnt) {g : Nat} {cs : Array Value} {ty : TypeId} {fr : Nat × Nat} (hg : w.heap[g]? = some (.cells cs ty fr)) : r ≠ g := by
  obtain ⟨D, L, ⟨es, c, si, se, c0, h1, h2, h3, h4, h5, h6⟩, h7⟩ := h
  rintro rfl
  rw [hg] at h5
  cases h5
set_option maxRecDepth 100000 in
set_option maxHeartbeats 2000000 in
theorem flush_any (h : DiskAt Try.prog w d g m n x) (hin : ∀ i l, wfi i → x.S i = some l → x.has i = true) : Calls Try.prog 88 #[.pointer (some ⟨d, 0, none⟩)] w fun e w' => e = .returned (.int .i64 x.fcode) ∧ DiskAt Try.prog w' d g m n x.flush ∧ Frm (own3 d g m) w w' := by
  have c5 := h.c5
  unfold DS.fcode DS.flush
  by_cases hd : x.down = true
  · rw [if_pos hd, if_pos hd]
    rw [hd] at c5
    have H := Lib.hid h
    clear h
    go_enter Try.func88, Try.ntmps88
    go_wp2_with fail
    go_ret
    exact ⟨rfl, H.out, Frm.refl _ _⟩
  rw [if_neg hd, if_neg hd]
  have hd' : x.down = false := by simpa using hd
  rw [hd'] at c5
  have HP := Lib.hid (spend_any h)
  by_cases h0 : x.fuse = 0
  · rw [if_pos h0, if_pos h0]
    rw [if_pos h0] at HP
    clear h
    go_enter Try.func88, Try.ntmps88
    go_wp2_with (go_at_call 101; refine HP.out.mono ?_; rintro e w' ⟨rfl, hD, hF⟩)
    go_ret
    exact ⟨rfl, hD, hF⟩
  rw [if_neg h0, if_neg h0]
  rw [if_neg h0] at HP
  have QQ := Lib.hid (DS.spend_ok h0)
  generalize x.spend = z at *
  have HI := Lib.hid (show ∀ i l, wfi i → z.S i = some l → z.has i = true from fun i l hi hl => by unfold DS.has; rw [QQ.out.2.2.1]; exact hin i l hi (by rw [← QQ.out.2.1]; exact hl))
  clear h hin
  go_enter Try.func88, Try.ntmps88
  go_wp2_with (first | (go_at_call 101; refine HP.out.mono ?_; rintro e w1 ⟨rfl, hD, hF⟩; have c3 := hD.c3; have MP := hD.map; have HD := Lib.hid hD; clear hD) | (at_range; refine wpList_range _ rfl _ 59 rfl Try.underlying3 Try.underlying59 rfl MP ?_))
  intro w2 cnt0 hR hg2 hs2
  have hD2 := HD.out.keep (hg2.block d HD.out.dlt (by simp)) (hg2.block g HD.out.glt (by simp)) (hg2.block m HD.out.mlt (by simp))
  have HD2 := Lib.hid hD2
  have HR := Lib.hid hR
  have hF2 : Frm (own3 d g m) w1 w2 := (Frm.refl _ _).grown hg2 (by intro j e; cases e)
  have HW := Lib.hid hF2
  have dl := HD.out.dlt
  have gl := HD.out.glt
  have ml := HD.out.mlt
  clear hD2 hR hF2 hg2 MP c3
  obtain ⟨r, hr⟩ : ∃ r, r = w1.heap.size := ⟨_, rfl⟩
  rw [← hr] at HR dl gl ml ⊢
  have RR := Lib.hid hr
  clear hs2 hr
  go_wp2_with fail
  go_loopw [4] (fun _ wr => FlRel w1 d g m n r z wr) (fun _ wr => wr.rangeLeft m r)
  case atStart => exact ⟨_, _, HR.out, by rw [laid_start]; exact HD2.out, HW.out⟩
  case round =>
    obtain ⟨wo, rfl⟩ : ∃ wo : World, wo = wr := ⟨_, rfl⟩
    obtain ⟨left, cnt, MR, DA, FA⟩ := hrel
    have HM := Lib.hid MR
    have HA := Lib.hid DA
    have HF := Lib.hid FA
    clear DA FA HR HD2 HW
    go_wp2_with (at_next; refine wpList_next _ rfl (.tmp 19) rfl Try.underlying3 rfl MR ?_ ?_)
    · intro h0 hl
      have hL := laid_end (s := z.s) (S := z.S) HA.out.few' hl
      have hD4 := HA.out
      rw [hL] at hD4
      have c3 := hD4.c3
      have MP := hD4.map
      have HD4 := Lib.hid hD4
      clear hD4 hL MR HA HM
      go_wp2_with (refine wpList_clear _ rfl _ 59 rfl Try.underlying59 rfl MP ?_)
      intro w4 HM4 ht4
      have hD5 := (HD4.out.setMap ht4 HM4).mono (Nat.zero_le n)
      have hF5 := HF.out.turned ht4 (.inl (.inr (.inr rfl)))
      have HC := Lib.hid (countFlush_any hD5)
      dsimp only at HC
      obtain ⟨q1, q2, q3, q4, q5⟩ := QQ.out
      rw [q2, q3, q5] at HC
      clear MP HD4 hD5 HM4 ht4 c3 q1 q2 q3 q4 q5
      go_wp2_with (go_at_call 102; refine HC.out.mono ?_; rintro e w6 ⟨rfl, hD6, hF6⟩)
      go_ret
      exact ⟨rfl, hD6, hF.trans (hF5.trans hF6)⟩
    · intro i l w3 cnt3 hwi h128 hSi hli MR3 hlt hg3 hs3 hen
      have hz := HI.out i l hwi hSi
      simp [DS.has] at hz
      obtain ⟨k, rfl⟩ : ∃ k : Nat, i = (k : Int) := ⟨i.toNat, by omega⟩
      have hk : k < z.s.length := by omega
      have hDo := HA.out
      have nr := Lib.hid (show d ≠ r ∧ g ≠ r ∧ m ≠ r from ⟨by omega, by omega, by omega⟩)
      have hD3 := hDo.keep (hg3.block d hDo.dlt (by intro e; cases e; exact nr.out.1 rfl)) (hg3.block g hDo.glt (by intro e; cases e; exact nr.out.2.1 rfl)) (hg3.block m hDo.mlt (by intro e; cases e; exact nr.out.2.2 rfl))
      have hF3 := HF.out.grown hg3 (fun j e => .inr (by cases e; have := RR.out; omega))
      obtain ⟨w4, hw4⟩ : ∃ w4, w4 = w3.alloc (.cells (bvs l).toArray 112) := ⟨_, rfl⟩
      have hD4 := hD3.alloc (.cells (bvs l).toArray 112)
      have hF4 := hF3.alloc (.cells (bvs l).toArray 112)
      have hM4 := MR3.keep (Below.heap_alloc w3 (.cells (bvs l).toArray 112) m hD3.mlt) (Below.heap_alloc w3 (.cells (bvs l).toArray 112) r MR3.lt)
      have hb4 := heap_alloc_new w3 (.cells (bvs l).toArray 112)
      rw [← hw4] at hD4 hF4 hM4 hb4
      have c2 := hD4.c2
      have hlen : (laid z.s z.S left).length = z.s.length := laid_length _ _ _
      dsimp only at c2
      rw [hlen] at c2
      have hra : w4.rangeAt w3.heap.size 0 (bvs l) := by
        intro j v hv
        rw [cell_of_row w4 w3.heap.size (0 + j) _ _ _ hb4, Nat.zero_add]
        simpa using hv
      have hki : (k : Int) < (z.s.length : Int) := by omega
      have hlt' : cnt3 < wo.rangeLeft m r := by rw [MR.left_eq]; exact hlt
      have H4 := Lib.hid hD4
      have F4 := Lib.hid hF4
      have M4 := Lib.hid hM4
      have LT := Lib.hid hlt'
      have HL := Lib.hid hlen
      have HS := Lib.hid hSi
      clear hD4 hF4 hM4 hD3 hF3 hDo MR MR3 HM HA hlt hlt' hg3 hs3 hlen hSi hli hb4
      have HW4 := Lib.hid hw4
      clear hw4
      have hbl : (Try.prog.info? 112).map (·.size) = some (bvs l).length := by rw [bvs_length, h128]; exact Try.sec128
      go_wp2_with (refine wpList_store_new rfl 112 (.tmp 5) (.tmp 24) rfl 112 Try.zeroCells112 (bvs l).toArray rfl rfl (Try.secSize h128) (Try.zeroSize h128) (all_bvs l) ?_)
      rw [← HW4.out]
      simp only [Act.put, List.setIfInBounds_toArray, List.set_cons_zero, List.set_cons_succ, List.getElem_toArray, List.getElem_cons_zero, List.getElem_cons_succ]
      refine wp_region_quiet_tail 7 (by kernel_rfl) (by kernel_rfl) ?_
      simp only [List.take_succ_cons, List.take_zero, List.drop_succ_cons, List.drop_zero]
      (repeat (go_big_quiet_step (fail)))
      refine wpQuiet_load_mid rfl 112 (.tmp 5) rfl w3.heap.size 0 rfl (bvs l) _ (fun w' hw' => by obtain ⟨_, rfl⟩ := hw'; exact hra) Try.underlying112 rfl hbl ?_
      simp only [Act.put, List.setIfInBounds_toArray, List.set_cons_zero, List.set_cons_succ, List.getElem_toArray, List.getElem_cons_zero, List.getElem_cons_succ]
      (repeat (go_big_quiet_step (fail)))
      refine wpQuiet_nil ?_
      intro _ hw'
      obtain ⟨nq, hw''⟩ := hw'
      subst hw''
      have hth := (H4.out.drewN nq).there (k := k) (by dsimp only; rw [HL.out]; exact hk) h128
      refine wpList_store_mid rfl 112 (.tmp 31) (.tmp 30) rfl g (k * 128) (bvs l).toArray rfl rfl hth (Try.secSize h128) (all_bvs l) ?_
      rw [List.toList_toArray]
      have hD5 := (H4.out.drewN nq).setSure (i := k) (l := l) (by dsimp only; rw [HL.out]; exact hk) h128
      dsimp only at hD5
      rw [laid_step HS.out] at hD5
      have hF5 := (F4.out.drewN nq).setCells (.inl (.inr (.inl rfl))) (bvs l) (k * 128)
      have hM5 := M4.out.keep (w' := (w4.drewN nq).setCells g (k * 128) (bvs l)) (setCells_other H4.out.mg (bvs l) (k * 128) (w4.drewN nq)) (setCells_other (MapRange.dist M4.out H4.out.row) (bvs l) (k * 128) (w4.drewN nq))
      have hlt5 : ((w4.drewN nq).setCells g (k * 128) (bvs l)).rangeLeft m r < wo.rangeLeft m r := by rw [hM5.left_eq]; exact LT.out
      generalize (w4.drewN nq).setCells g (k * 128) (bvs l) = w5 at *
      have REL := Lib.hid (show FlRel w1 d g m n r z w5 from ⟨_, _, hM5, hD5, hF5⟩)
      have LT5 := Lib.hid hlt5
      clear hth hD5 hF5 hM5 hlt5 H4 F4 M4 LT hra c2
      simp only [Act.put, List.setIfInBounds_toArray, List.set_cons_zero, List.set_cons_succ, List.getElem_toArray, List.getElem_cons_zero, List.getElem_cons_succ]
      go_wp2_with fail
      exact ⟨REL.out, LT5.out⟩
end Go.Proofs.Ytdjpeebekpjiiaa.Dk
