/- A region that draws its order: a head of operations that only read (calls may draw), then a tail in forced order. -/
import Derived.Deep.QuietTactic
import Derived.BigQuiet
import Derived.StillTail
import Derived.Test.YtkmhbbcppjckiaaK0D
namespace Go.Proofs.Ytkmhbbcppjckiaa
open Go
section
variable {P : Program} {ops : Array Oper} {C : World → Prop}

/-- The operations of these numbers, one behind the other. -/
def quietAlong (P : Program) (ops : Array Oper) (C : World → Prop) (Q : Act → Prop) : List Nat → Act → Prop
  | [], a => Q a
  | i :: l, a => qOp P ops C i (quietAlong P ops C Q l) a

theorem quietAlong_of {Q : Act → Prop} : ∀ (l : List Oper) (k : Nat) (a : Act), (∀ j, j < l.length → l[j]? = ops[k + j]?) → wpQuiet P ops C Q l a → quietAlong P ops C Q (List.range' k l.length) a
  | [], _, _, _, h => h
  | o :: l, k, a, hl, h => by
    have h0 : ops[k]? = some o := by simpa using (hl 0 (by simp)).symm
    have h1 : qOp P ops C k (wpQuiet P ops C Q l) a := by unfold qOp; simp only [h0]; exact h
    exact qOp_mono (fun a' h' => quietAlong_of l (k + 1) a' (fun j hj => by have := hl (j + 1) (by simp; omega); simpa [Nat.add_assoc, Nat.add_comm 1 j] using this) h') h1

/-- One of them is taken ahead of those that stand before it, if it is apart from them. -/
theorem quietAlong_ahead {Q : Act → Prop} (hs : Region.noSelect ops = true) {i : Nat} {oi : Oper} (hi : ops[i]? = some oi) : ∀ (l : List Nat) (a : Act), l.Nodup → i ∈ l →
    (∀ k ∈ l, ∃ ok, ops[k]? = some ok ∧ (k < i → ok.apart ops oi = true)) → l.Pairwise (· < ·) → quietAlong P ops C Q l a → qOp P ops C i (quietAlong P ops C Q (l.erase i)) a
  | [], _, _, hm, _, _, _ => by cases hm
  | k :: l, a, hnd, hm, hap, hp, h => by
    by_cases hk : k = i
    · subst hk
      rw [List.erase_cons_head]
      exact h
    · have hml : i ∈ l := by
        cases hm with
        | head => exact absurd rfl hk
        | tail _ h' => exact h'
      obtain ⟨ok, hok, hka⟩ := hap k (by simp)
      have hki : k < i := (List.pairwise_cons.1 hp).1 i hml
      obtain ⟨v, hy, hK⟩ := yieldsIn_of_qOp hok h
      have ih := quietAlong_ahead hs hi l _ (List.nodup_cons.1 hnd).2 hml (fun k' hk' => hap k' (List.mem_cons_of_mem _ hk')) (List.pairwise_cons.1 hp).2 hK
      have h2 := qOp_put hi (hka hki) (fun cs b => Region.noSelect_spec hs k ok cs b hok) (fun cs b => Region.noSelect_spec hs i oi cs b hi) hy ih
      rw [List.erase_cons_tail (by simpa using hk)]
      exact qOp_mono (fun a' h' => h'.1.qOp hok h'.2) h2

/-- Each of the first n waits for earlier ones alone; and of two of them the later one waits for the other, or they are apart. -/
def headOk (ops : Array Oper) (n : Nat) : Bool :=
  (List.range n).all fun i => match ops[i]? with
    | none => false
    | some oi => (oi.after.all fun e => !Region.binds .any e || decide (e.on < i)) && (List.range i).all fun k => (oi.after.any fun e => Region.binds .any e && e.on == k) || (match ops[k]? with | some ok => ok.apart ops oi | none => false)
def listedTo (m n : Nat) : Array Bool := ((List.range m).map (fun j => decide (j < n))).toArray
def tailOk (ops : Array Oper) (n : Nat) : Bool :=
  Region.noSelect ops && decide (n < ops.size) && Region.sinkB .any ops n && Region.chainB .any ops n && headOk ops n && Region.seqB .any ops (ops.size - n) n (listedTo ops.size n)

theorem headOk_spec {n i : Nat} (h : headOk ops n = true) (hi : i < n) : ∃ oi, ops[i]? = some oi ∧ (∀ e ∈ oi.after, Region.binds .any e = true → e.on < i) ∧
    ∀ k, k < i → (∃ e ∈ oi.after, Region.binds .any e = true ∧ e.on = k) ∨ ∃ ok, ops[k]? = some ok ∧ ok.apart ops oi = true := by
  have h1 := List.all_eq_true.1 h i (List.mem_range.2 hi)
  split at h1
  · cases h1
  · rename_i oi hoi
    simp only [Bool.and_eq_true] at h1
    refine ⟨oi, hoi, fun e he hb => ?_, fun k hk => ?_⟩
    · have := Array.all_eq_true'.1 h1.1 e he
      simpa [hb] using this
    · have := List.all_eq_true.1 h1.2 k (List.mem_range.2 hk)
      simp only [Bool.or_eq_true] at this
      rcases this with h2 | h2
      · obtain ⟨e, he, hb⟩ := Array.any_eq_true'.1 h2
        simp only [Bool.and_eq_true, beq_iff_eq] at hb
        exact .inl ⟨e, he, hb.1, hb.2⟩
      · split at h2
        · rename_i ok hok; exact .inr ⟨ok, hok, h2⟩
        · cases h2

theorem head_then {Q : Act → Prop} {Q' : Exit → Act → World → Prop} {n g : Nat} (hs : Region.noSelect ops = true) (hn : n < ops.size) (hsk : Region.sinkB .any ops n = true) (hch : Region.chainB .any ops n = true) (hh : headOk ops n = true)
    (hQ : ∀ a w, C w → Q a → wpAny P .any ops Q' g (listedTo ops.size n) a w) :
    ∀ (f : Nat) (l : List Nat) (listed : Array Bool) (a : Act) (w : World), l.length = f → C w → HeadInv .any ops n listed → l.Pairwise (· < ·) → (∀ k ∈ l, k < n) →
      (∀ k, k < n → (listed.getD k true = false ↔ k ∈ l)) → quietAlong P ops C Q l a → wpAny P .any ops Q' (f + g) listed a w := by
  intro f
  induction f with
  | zero =>
    intro l listed a w hf hw inv _ _ hl h
    have hl0 : l = [] := List.length_eq_zero_iff.1 hf
    subst hl0
    have he : listed = listedTo ops.size n := by
      apply Array.ext
      · simp [inv.size, listedTo]
      · intro j h1 h2
        have hb : listed[j] = listed.getD j true := by simp [h1]
        have hjs : j < ops.size := by rw [← inv.size]; exact h1
        rw [hb]
        have e2 : (listedTo ops.size n)[j] = decide (j < n) := by simp [listedTo]
        rw [e2]
        by_cases hj : j < n
        · have := hl j hj
          simp only [List.not_mem_nil, iff_false, Bool.not_eq_false] at this
          simp [this, hj]
        · rw [inv.tail j (by omega) hjs]; simp [hj]
    rw [he, Nat.zero_add]
    exact hQ a w hw h
  | succ f ih =>
    intro l listed a w hf hw inv hp hln hl h
    have hnd : l.Nodup := hp.imp (fun h => Nat.ne_of_lt h)
    rw [show f + 1 + g = (f + g) + 1 by omega]
    obtain ⟨k0, l0, rfl⟩ : ∃ k0 l0, l = k0 :: l0 := by
      cases l with
      | nil => cases hf
      | cons k0 l0 => exact ⟨k0, l0, rfl⟩
    have hk0 : k0 < n := hln k0 (by simp)
    have hun0 := (hl k0 hk0).2 (by simp)
    refine ⟨fun h0 => ?_, fun i hi => ?_⟩
    · exfalso
      obtain ⟨o0, ho0, haf, _⟩ := headOk_spec hh hk0
      have : k0 ∈ Region.ready .any ops listed := mem_ready.2 ⟨hun0, o0, ho0, fun e he hb => by
        have hlt := haf e he hb
        have hon : e.on ∉ k0 :: l0 := by
          intro hmem
          rcases List.mem_cons.1 hmem with h1 | h1
          · omega
          · have := (List.pairwise_cons.1 hp).1 _ h1; omega
        have h2 := mt (hl e.on (by omega)).1 hon
        have hsz : e.on < listed.size := by rw [inv.size]; omega
        simp [hsz] at h2 ⊢
        exact h2⟩
      rw [h0] at this
      cases this
    · have hin : i < n := by
        rcases Nat.lt_or_ge i n with h' | h'
        · exact h'
        · exact absurd hi (tail_waits hsk hch hn inv _ k0 rfl hk0 hun0 i h')
      obtain ⟨hiu, oi, hoi, hall⟩ := mem_ready.1 hi
      have him := (hl i hin).1 hiu
      have hq := quietAlong_ahead hs hoi (k0 :: l0) a hnd him (fun k hk => by
        have hkn := hln k hk
        obtain ⟨ok, hok, _, _⟩ := headOk_spec hh hkn
        refine ⟨ok, hok, fun hki => ?_⟩
        obtain ⟨oi', hoi', _, hw2⟩ := headOk_spec hh hin
        obtain rfl : oi' = oi := Option.some.inj (hoi'.symm.trans hoi)
        rcases hw2 k hki with ⟨e, he, hb, hon⟩ | ⟨ok', hok', hap⟩
        · have h1 := hall e he hb
          have h2 := (hl k hkn).2 hk
          rw [hon, getD_both h2] at h1
          cases h1
        · obtain rfl : ok' = ok := Option.some.inj (hok'.symm.trans hok)
          exact hap) hp h
      refine wpOp_of_qOp hw (fun a' w' hw' h' => ih ((k0 :: l0).erase i) (listed.setIfInBounds i true) a' w' ?_ hw' (inv.set hi hin) (hp.sublist List.erase_sublist) (fun k hk => hln k (List.mem_of_mem_erase hk)) ?_ h') hq
      · rw [List.length_erase_of_mem him, hf]; rfl
      · intro k hk
        by_cases hki : i = k
        · subst hki
          have hsz : i < listed.size := by rw [inv.size]; omega
          constructor
          · intro h1
            simp [hsz] at h1
          · intro h1
            exact absurd h1 (List.Nodup.not_mem_erase hnd)
        · rw [getD_set_ne true hki, hl k hk, List.Nodup.mem_erase_iff hnd]
          exact ⟨fun h1 => ⟨Ne.symm hki, h1⟩, fun h1 => h1.2⟩

theorem wp_region_quiet_tail {id : Nat} {Q : Exit → Act → World → Prop} {a : Act} {w : World} {l : List Oper} (n : Nat) (hm : P.follows .mixedOrders = true) (hB : tailOk l.toArray n = true)
    (h : wpQuiet P l.toArray (fun w' => ∃ m, w' = w.drewN m) (fun a' => ∀ w', (∃ m, w' = w.drewN m) → wpList P l.toArray Q (l.drop n) a' w') (l.take n) a) : (Code.region id l.toArray true).wp P Q a w := by
  simp only [tailOk, Bool.and_eq_true, decide_eq_true_eq] at hB
  obtain ⟨⟨⟨⟨⟨hs, hn⟩, hsk⟩, hch⟩, hh⟩, hseq⟩ := hB
  have hn' : n < l.length := by simpa using hn
  have htl : (l.take n).length = n := by simp; omega
  have hdl : (l.drop n).length = l.toArray.size - n := by simp
  have inv0 : HeadInv .any l.toArray n (Array.replicate l.toArray.size false) :=
    ⟨by simp, fun j oj _ hl => (by rw [getD_replicate_false] at hl; cases hl), fun t _ ht => getD_in (by simpa using ht) (getD_replicate_false _ _)⟩
  have hq := quietAlong_of (ops := l.toArray) (l.take n) 0 a (fun j hj => by
    have hj' : j < n := by rw [htl] at hj; exact hj
    simp [hj']) h
  rw [htl] at hq
  refine wp_region_any hm ?_
  have := head_then (C := fun w' => ∃ m, w' = w.drewN m) (Q' := Q) (g := l.toArray.size - n) hs hn hsk hch hh (fun a' w' hw' hL => by
    have := wpAny_of_seq (md := .any) (Q' := Q) (l.drop n) n (listedTo l.toArray.size n) a' w' (fun j => by simp [List.getElem?_drop]) (by rw [hdl]; exact hseq) (hL w' hw')
    rwa [hdl] at this) n (List.range' 0 n) (Array.replicate l.toArray.size false) a _ (by simp) ⟨1, rfl⟩ inv0 (by simpa using (List.pairwise_lt_range' (s := 0) (n := n) (step := 1))) (fun k hk => by simp at hk; omega)
    (fun k hk => ⟨fun _ => by simp; omega, fun _ => by have : k < l.length := by omega
                                                       simp [this]⟩) hq
  rw [show n + (l.toArray.size - n) = l.toArray.size by omega] at this
  exact this
/-! Operation 0 only moves a slot that is not written here: it may come up anywhere ahead of what waits for it, also within the tail. -/
def sinkF (ops : Array Oper) (n : Nat) : Bool :=
  (List.range n).all fun i => i == 0 || (List.range (n + 1)).any fun j => decide (i < j) && Region.waitsFor .any ops j i
def movesFirst (ops : Array Oper) : Bool :=
  match ops[0]? with
  | some o => o.guard.isNone && (match o.op with | .move _ => true | _ => false) && (o.after.all fun e => !Region.binds .any e) &&
      (List.range ops.size).all fun j => j == 0 || Region.waitsFor .any ops j 0 || (match ops[j]? with | some oj => o.apart ops oj | none => true)
  | none => false
def tailOkF (ops : Array Oper) (n : Nat) : Bool :=
  Region.noSelect ops && decide (n < ops.size) && decide (0 < n) && sinkF ops n && Region.chainB .any ops n && headOk ops n && Region.seqB .any ops (ops.size - n) n (listedTo ops.size n) && movesFirst ops

theorem tail_waitsF {n : Nat} {listed : Array Bool} (hs : sinkF ops n = true) (hc : Region.chainB .any ops n = true) (hn : n < ops.size) (inv : HeadInv .any ops n listed) (h0 : listed.getD 0 true = true) :
    ∀ (d i : Nat), n - i = d → i < n → listed.getD i true = false → ∀ t, n ≤ t → t ∉ Region.ready .any ops listed := by
  intro d
  induction d using Nat.strongRecOn with
  | _ d ih =>
    intro i hd hi hun t ht hr
    obtain ⟨_, ot, hot, hall⟩ := mem_ready.1 hr
    have htlt : t < ops.size := (Array.getElem?_eq_some_iff.1 hot).1
    by_cases htn : t = n
    · subst htn
      have h1 := List.all_eq_true.1 hs i (List.mem_range.2 hi)
      have hi0 : i ≠ 0 := fun h => by rw [h, h0] at hun; cases hun
      simp only [Bool.or_eq_true, beq_iff_eq, hi0, false_or] at h1
      obtain ⟨j, hj, hj2⟩ := List.any_eq_true.1 h1
      simp only [Bool.and_eq_true, decide_eq_true_eq] at hj2
      obtain ⟨oj, hoj, e, he, hb, hon⟩ := Region.waitsFor_spec hj2.2
      have hjle : j ≤ t := by have := List.mem_range.1 hj; omega
      by_cases hjt : j = t
      · subst hjt
        have : oj = ot := Option.some.inj (hoj.symm.trans hot)
        subst this
        have h2 := hall e he hb
        rw [hon, getD_both hun] at h2
        cases h2
      · cases hl : listed.getD j false with
        | true =>
          have h2 := inv.closed j oj hoj hl e he hb
          rw [hon, getD_both hun] at h2
          cases h2
        | false =>
          have hjs : j < listed.size := by rw [inv.size]; omega
          exact ih (t - j) (by omega) j rfl (by omega) (getD_in hjs hl) t (Nat.le_refl _) hr
    · have h1 := List.all_eq_true.1 hc t (List.mem_range.2 htlt)
      simp only [Bool.or_eq_true, decide_eq_true_eq] at h1
      rcases h1 with h1 | h1
      · omega
      · obtain ⟨o', ho', e, he, hb, hon⟩ := Region.waitsFor_spec h1
        have : o' = ot := Option.some.inj (ho'.symm.trans hot)
        subst this
        have h2 := hall e he hb
        rw [hon, getD_both (inv.tail (t - 1) (by omega) (by omega))] at h2
        cases h2

theorem head_thenF {I : Array Bool → Prop} {Q : Act → Prop} {Q' : Exit → Act → World → Prop} {n g : Nat} (hs : Region.noSelect ops = true) (hn : n < ops.size) (htw : ∀ listed, HeadInv .any ops n listed → I listed → ∀ (d i : Nat), n - i = d → i < n → listed.getD i true = false → ∀ t, n ≤ t → t ∉ Region.ready .any ops listed) (hI : ∀ (listed : Array Bool) (i : Nat), I listed → I (listed.setIfInBounds i true)) (hh : headOk ops n = true)
    (hQ : ∀ a w, C w → Q a → wpAny P .any ops Q' g (listedTo ops.size n) a w) :
    ∀ (f : Nat) (l : List Nat) (listed : Array Bool) (a : Act) (w : World), l.length = f → C w → HeadInv .any ops n listed → I listed → l.Pairwise (· < ·) → (∀ k ∈ l, k < n) →
      (∀ k, k < n → (listed.getD k true = false ↔ k ∈ l)) → quietAlong P ops C Q l a → wpAny P .any ops Q' (f + g) listed a w := by
  intro f
  induction f with
  | zero =>
    intro l listed a w hf hw inv _ _ _ hl h
    have hl0 : l = [] := List.length_eq_zero_iff.1 hf
    subst hl0
    have he : listed = listedTo ops.size n := by
      apply Array.ext
      · simp [inv.size, listedTo]
      · intro j h1 h2
        have hb : listed[j] = listed.getD j true := by simp [h1]
        have hjs : j < ops.size := by rw [← inv.size]; exact h1
        rw [hb]
        have e2 : (listedTo ops.size n)[j] = decide (j < n) := by simp [listedTo]
        rw [e2]
        by_cases hj : j < n
        · have := hl j hj
          simp only [List.not_mem_nil, iff_false, Bool.not_eq_false] at this
          simp [this, hj]
        · rw [inv.tail j (by omega) hjs]; simp [hj]
    rw [he, Nat.zero_add]
    exact hQ a w hw h
  | succ f ih =>
    intro l listed a w hf hw inv hil hp hln hl h
    have hnd : l.Nodup := hp.imp (fun h => Nat.ne_of_lt h)
    rw [show f + 1 + g = (f + g) + 1 by omega]
    obtain ⟨k0, l0, rfl⟩ : ∃ k0 l0, l = k0 :: l0 := by
      cases l with
      | nil => cases hf
      | cons k0 l0 => exact ⟨k0, l0, rfl⟩
    have hk0 : k0 < n := hln k0 (by simp)
    have hun0 := (hl k0 hk0).2 (by simp)
    refine ⟨fun h0 => ?_, fun i hi => ?_⟩
    · exfalso
      obtain ⟨o0, ho0, haf, _⟩ := headOk_spec hh hk0
      have : k0 ∈ Region.ready .any ops listed := mem_ready.2 ⟨hun0, o0, ho0, fun e he hb => by
        have hlt := haf e he hb
        have hon : e.on ∉ k0 :: l0 := by
          intro hmem
          rcases List.mem_cons.1 hmem with h1 | h1
          · omega
          · have := (List.pairwise_cons.1 hp).1 _ h1; omega
        have h2 := mt (hl e.on (by omega)).1 hon
        have hsz : e.on < listed.size := by rw [inv.size]; omega
        simp [hsz] at h2 ⊢
        exact h2⟩
      rw [h0] at this
      cases this
    · have hin : i < n := by
        rcases Nat.lt_or_ge i n with h' | h'
        · exact h'
        · exact absurd hi (htw listed inv hil _ k0 rfl hk0 hun0 i h')
      obtain ⟨hiu, oi, hoi, hall⟩ := mem_ready.1 hi
      have him := (hl i hin).1 hiu
      have hq := quietAlong_ahead hs hoi (k0 :: l0) a hnd him (fun k hk => by
        have hkn := hln k hk
        obtain ⟨ok, hok, _, _⟩ := headOk_spec hh hkn
        refine ⟨ok, hok, fun hki => ?_⟩
        obtain ⟨oi', hoi', _, hw2⟩ := headOk_spec hh hin
        obtain rfl : oi' = oi := Option.some.inj (hoi'.symm.trans hoi)
        rcases hw2 k hki with ⟨e, he, hb, hon⟩ | ⟨ok', hok', hap⟩
        · have h1 := hall e he hb
          have h2 := (hl k hkn).2 hk
          rw [hon, getD_both h2] at h1
          cases h1
        · obtain rfl : ok' = ok := Option.some.inj (hok'.symm.trans hok)
          exact hap) hp h
      refine wpOp_of_qOp hw (fun a' w' hw' h' => ih ((k0 :: l0).erase i) (listed.setIfInBounds i true) a' w' ?_ hw' (inv.set hi hin) (hI _ _ hil) (hp.sublist List.erase_sublist) (fun k hk => hln k (List.mem_of_mem_erase hk)) ?_ h') hq
      · rw [List.length_erase_of_mem him, hf]; rfl
      · intro k hk
        by_cases hki : i = k
        · subst hki
          have hsz : i < listed.size := by rw [inv.size]; omega
          constructor
          · intro h1
            simp [hsz] at h1
          · intro h1
            exact absurd h1 (List.Nodup.not_mem_erase hnd)
        · rw [getD_set_ne true hki, hl k hk, List.Nodup.mem_erase_iff hnd]
          exact ⟨fun h1 => ⟨Ne.symm hki, h1⟩, fun h1 => h1.2⟩


theorem wp_region_quiet_tail_f {id : Nat} {Q : Exit → Act → World → Prop} {a : Act} {w : World} {l : List Oper} (n : Nat) (hm : P.follows .mixedOrders = true) (hB : tailOkF l.toArray n = true)
    (h : wpQuiet P l.toArray (fun w' => ∃ m, w' = w.drewN m) (fun a' => ∀ w', (∃ m, w' = w.drewN m) → wpList P l.toArray (fun e a w => e = .normal ∧ Q .normal a w) (l.drop n) a' w') (l.take n) a) : (Code.region id l.toArray true).wp P Q a w := by
  simp only [tailOkF, Bool.and_eq_true, decide_eq_true_eq] at hB
  obtain ⟨⟨⟨⟨⟨⟨⟨hs, hn⟩, hn0⟩, hsk⟩, hch⟩, hh⟩, hseq⟩, hmv⟩ := hB
  have hn' : n < l.length := by simpa using hn
  obtain ⟨o0, rest, rfl⟩ : ∃ o0 rest, l = o0 :: rest := by
    cases l with
    | nil => simp at hn'
    | cons o0 rest => exact ⟨o0, rest, rfl⟩
  obtain ⟨k, rfl⟩ : ∃ k, n = k + 1 := ⟨n - 1, by omega⟩
  have ho0 : (o0 :: rest).toArray[0]? = some o0 := by simp
  simp only [movesFirst, ho0, Bool.and_eq_true] at hmv
  obtain ⟨⟨⟨hg, hx⟩, haf⟩, hfree⟩ := hmv
  obtain ⟨x, hox⟩ : ∃ x, o0.op = .move x := by
    split at hx
    · rename_i x hx'; exact ⟨x, hx'⟩
    · cases hx
  have hwant : ∀ y, Region.wanted o0 y = true := fun y => by
    unfold Region.wanted
    cases hgg : o0.guard with
    | none => rfl
    | some _ => rw [hgg] at hg; cases hg
  have hrun : ∀ (a : Act) (w : World), (execOp a.eval o0).run P w = .ok (.value (a.eval x)) w := fun a w => by
    have : execOp a.eval o0 = pure (.value (a.eval x)) := by
      unfold execOp
      rw [hox]
    rw [this]
    rfl
  simp only [List.take_succ_cons, List.drop_succ_cons] at h
  have h' : wpQuiet P (o0 :: rest).toArray (fun w' => ∃ m, w' = w.drewN m) (fun a' => ∀ w', (∃ m, w' = w.drewN m) → wpList P (o0 :: rest).toArray (fun e a w => e = .normal ∧ Q .normal a w) (rest.drop k) a' w') (rest.take k) (a.put o0.dst (a.eval x)) := by
    have h1 : o0.quiet P a (fun w' => ∃ m, w' = w.drewN m) (wpQuiet P (o0 :: rest).toArray (fun w' => ∃ m, w' = w.drewN m) (fun a' => ∀ w', (∃ m, w' = w.drewN m) → wpList P (o0 :: rest).toArray (fun e a w => e = .normal ∧ Q .normal a w) (rest.drop k) a' w') (rest.take k)) := by
      have h0 := h
      unfold wpQuiet at h0
      rw [hwant, if_pos rfl] at h0
      exact h0
    obtain ⟨v, hv, h2⟩ := h1
    have h3 := hv (w.drewN 1) ⟨1, rfl⟩
    unfold Oper.quietAt at h3
    rw [hrun] at h3
    rw [h3.2]
    exact h2
  refine Code.wp_mono (Q := fun e a w => e = .normal ∧ Q .normal a w) (fun e a w hq => by obtain ⟨rfl, hq⟩ := hq; exact hq) ?_
  refine wp_region_any hm ?_
  have hsz : (o0 :: rest).toArray.size = (k + ((o0 :: rest).toArray.size - (k + 1))) + 1 := by simp at hn' ⊢; omega
  have hz : ∀ j, (Array.replicate (o0 :: rest).toArray.size false).getD j false = false := fun j => getD_replicate_false _ _
  rw [show wpAny P .any (o0 :: rest).toArray (fun e a w => e = .normal ∧ Q .normal a w) (o0 :: rest).toArray.size = wpAny P .any (o0 :: rest).toArray (fun e a w => e = .normal ∧ Q .normal a w) ((k + ((o0 :: rest).toArray.size - (k + 1))) + 1) from congrArg _ hsz]
  have hsel : ∀ (j : Nat) (o : Oper) cs b, (o0 :: rest).toArray[j]? = some o → o.op ≠ .select cs b := fun j o cs b ho => Region.noSelect_spec hs j o cs b ho
  refine wpAny_first (i := 0) (v := a.eval x) ho0 hsel (fun c a w hq => absurd hq.1 (by intro h; cases h)) _ _ _ _ ?_ ?_ (.inl ⟨hwant _, fun w => hrun a w⟩) ?_
  · intro j oj hoj hj0 _ hno
    have hjs : j < (o0 :: rest).toArray.size := (Array.getElem?_eq_some_iff.1 hoj).1
    have h1 := List.all_eq_true.1 hfree j (List.mem_range.2 hjs)
    simp only [Bool.or_eq_true, beq_iff_eq, hj0, false_or, hoj] at h1
    rcases h1 with h1 | h1
    · obtain ⟨oj', hoj', e, he, hb, hon⟩ := Region.waitsFor_spec h1
      obtain rfl : oj' = oj := Option.some.inj (hoj'.symm.trans hoj)
      exact absurd hon (hno e he hb)
    · exact h1
  · refine mem_ready.2 ⟨getD_in (by simp) (hz 0), o0, ho0, fun e he hb => ?_⟩
    have h1 := Array.all_eq_true'.1 haf e he
    rw [hb] at h1
    cases h1
  · have htl : (rest.take k).length = k := by simp at hn' ⊢; omega
    have hdl : (rest.drop k).length = (o0 :: rest).toArray.size - (k + 1) := by simp
    have hq := quietAlong_of (ops := (o0 :: rest).toArray) (rest.take k) 1 _ (fun j hj => by
      have hj' : j < k := by rw [htl] at hj; exact hj
      rw [Nat.add_comm 1 j]
      simp [hj']) h'
    rw [htl] at hq
    have hsz0 : 0 < (Array.replicate (o0 :: rest).toArray.size false).size := by simp
    have inv0 : HeadInv .any (o0 :: rest).toArray (k + 1) ((Array.replicate (o0 :: rest).toArray.size false).setIfInBounds 0 true) := by
      refine HeadInv.set ⟨by simp, fun j oj _ hl => (by rw [hz] at hl; cases hl), fun t _ ht => getD_in (by simpa using ht) (hz _)⟩ (mem_ready.2 ⟨getD_in (by simp) (hz 0), o0, ho0, fun e he hb => ?_⟩) (by omega)
      have h1 := Array.all_eq_true'.1 haf e he
      rw [hb] at h1
      cases h1
    refine head_thenF (C := fun w' => ∃ m, w' = w.drewN m) (I := fun li => li.getD 0 true = true) hs hn (fun li inv h0 => tail_waitsF hsk hch hn inv h0) ?_ hh (fun a' w' hw' hL => by
      have := wpAny_of_seq (md := .any) (Q' := fun e a w => e = .normal ∧ Q .normal a w) (rest.drop k) (k + 1) (listedTo (o0 :: rest).toArray.size (k + 1)) a' w' (fun j => by simp [List.getElem?_drop]; rw [show k + 1 + j = (k + j) + 1 by omega, List.getElem?_cons_succ]) (by rw [hdl]; exact hseq) (hL w' hw')
      rwa [hdl] at this) k (List.range' 1 k) _ _ _ (by simp) ⟨1, rfl⟩ inv0 ?_ (by simpa using (List.pairwise_lt_range' (s := 1) (n := k) (step := 1))) (fun i hi => by simp at hi; omega) ?_ hq
    · intro li i h0
      by_cases hi : i = 0
      · subst hi
        by_cases hs0 : 0 < li.size
        · simp [hs0]
        · simp [show li.size = 0 by omega]
      · rw [getD_set_ne true hi]; exact h0
    · simp
    · intro i hi
      by_cases hi0 : i = 0
      · subst hi0
        simp
      · rw [getD_set_ne true (Ne.symm hi0)]
        have his : i < (o0 :: rest).length := by omega
        constructor
        · intro _; simp; omega
        · intro _; exact getD_in (by simpa using his) (hz i)
end
end Go.Proofs.Ytkmhbbcppjckiaa
/- A link hangs behind the others, and comes loose. -/
namespace Go.Proofs.Ytkmhbbcppjckiaa.Qu
open Go Go.RowKit Go.Proofs.Ytkmhbbcppjckiaa
open Go.Proofs.Ytkmhbbcppjckiaa.Hp (K3 kv KLit wf3 i64wf kv_inj)
open Go.Proofs.Ytkmhbbcppjckiaa.Dk (Frm below_drewN Frm.of_below Frm.setCell)
set_option linter.unusedVariables false
set_option linter.unusedSimpArgs false
/-- A waiter's cells. -/
def wcs (k : K3) (s : Int) : List Value := [.int .i64 k.1, .int .i64 k.2.1, .int .i64 k.2.2, .int .i64 s]
theorem wtSize (k : K3) (s : Int) : (Try.prog.info? 112).map (·.size) = some (wcs k s).length := by kernel_rfl
theorem box_cells (w : World) (cs : List Value) (t : TypeId) : ∀ j v, cs[j]? = some v → (w.alloc (.cells cs.toArray t)).cell? ((⟨w.heap.size, 0, none⟩ : Addr).add j) = some v := fun j v hj => by
  rw [Addr.add_mid, Nat.zero_add, cell_of_row _ _ j _ _ _ (heap_alloc_new w _)]
  simpa using hj
set_option maxRecDepth 100000
variable {w : World} {b o : Nat} {R : Array Value} {ty : TypeId} {mo : Option Nat} {L : List Lk}
/-- The blocks that a queue's row and its links are. -/
def qT (b : Nat) (L : List Lk) (q : Nat) : Prop := q = b ∨ ∃ x ∈ L, x.ad = q
theorem hang_any (h : CAt w b o R ty mo L) (k : K3) (s : Int) : Calls Try.prog 46 #[.pointer (some ⟨b, o, none⟩), .agg (wcs k s).toArray] w fun e w' =>
    ∃ g, e = .returned (.pointer (some ⟨g, 0, none⟩)) ∧ w.heap.size ≤ g ∧ CAt w' b o R ty mo (L ++ [⟨k, s, g⟩]) ∧ Frm (qT b L) w w' := by
  obtain ⟨w1, hw1⟩ : ∃ x, x = w.alloc (.cells (wcs k s).toArray 112) := ⟨_, rfl⟩
  obtain ⟨g, hg⟩ : ∃ g, g = w.heap.size := ⟨_, rfl⟩
  have b1 : Below w.heap.size w w1 := by rw [hw1]; exact (Below.refl _ _).alloc (Nat.le_refl _) _
  have KT : ∀ j v, (wcs k s)[j]? = some v → w1.cell? ((⟨g, 0, none⟩ : Addr).add j) = some v := by rw [hw1, hg]; exact box_cells w _ _
  obtain ⟨c0, c1, c2, f0, f1, f2⟩ := (h.keep (w' := w1) (b1.block b h.row.lt) (fun x hx => b1.block _ (h.chain.lt x hx))).row.cells
  have HW := Lib.hid hw1
  have HG := Lib.hid hg
  have B1 := Lib.hid b1
  have H1 := Lib.hid (h.keep (w' := w1) (b1.block b h.row.lt) (fun x hx => b1.block _ (h.chain.lt x hx)))
  have HLT := Lib.hid (show b < w.heap.size ∧ ∀ x ∈ L, x.ad < w.heap.size from ⟨h.row.lt, h.chain.lt⟩)
  clear h hw1 hg b1 f0 f1 f2
  cases hl : lst L none with
  | none =>
    obtain ⟨rfl, _⟩ := lst_none hl
    replace c1 : w1.cell? ⟨b, o + 1, none⟩ = some (.pointer none) := c1
    go_enter Try.func46, Try.ntmps46
    go_upto_region 1 with fail
    rw [← HW.out, ← HG.out]
    refine wp_region_quiet_tail 6 (by kernel_rfl) (by kernel_rfl) ?_
    simp only [List.take_succ_cons, List.take_zero, List.drop_succ_cons, List.drop_zero]
    repeat (go_big_quiet_step (fail))
    refine wpQuiet_loadG (by kernel_rfl) 112 (.tmp 3) rfl ⟨g, 0, none⟩ rfl (wcs k s) _ (fun w' hC => by obtain ⟨nl, rfl⟩ := hC; exact KT) Try.underlying112 rfl (wtSize k s) ?_
    simp only [Act.put, List.setIfInBounds_toArray, List.set_cons_zero, List.set_cons_succ, List.getElem_toArray, List.getElem_cons_zero, List.getElem_cons_succ]
    repeat (go_big_quiet_step (fail))
    refine wpQuiet_runG (v := .agg (Lk.cells ⟨k, s, 0⟩ none none)) (by kernel_rfl) (fun w' hC => by obtain ⟨nl, rfl⟩ := hC; kernel_rfl) ?_
    simp only [Act.put, List.setIfInBounds_toArray, List.set_cons_zero, List.set_cons_succ, List.getElem_toArray, List.getElem_cons_zero, List.getElem_cons_succ]
    refine wpQuiet_nil ?_
    intro _ hw'
    obtain ⟨nq, hw''⟩ := hw'
    subst hw''
    obtain ⟨w2, hw2⟩ : ∃ x, x = w1.drewN nq := ⟨_, rfl⟩
    rw [← hw2]
    have b2 : Below w1.heap.size w1 w2 := by rw [hw2]; exact below_drewN (Below.refl _ _) nq
    have B2 := Lib.hid (B1.out.trans (b2.mono B1.out.size))
    have H2 := Lib.hid (H1.out.keep (w' := w2) (b2.block b H1.out.row.lt) (fun x hx => b2.block _ (H1.out.chain.lt x hx)))
    clear hw2 b2 c0 c1 c2 KT
    obtain ⟨w3, hw3⟩ : ∃ x, x = w2.alloc (.cells (Lk.cells ⟨k, s, 0⟩ none none) 118) := ⟨_, rfl⟩
    obtain ⟨g3, hg3⟩ : ∃ x, x = w2.heap.size := ⟨_, rfl⟩
    have b3 : Below w2.heap.size w2 w3 := by rw [hw3]; exact (Below.refl _ _).alloc (Nat.le_refl _) _
    have x3 : LkAt w3 ⟨k, s, g3⟩ none none := by unfold LkAt; rw [hw3, hg3]; exact heap_alloc_new _ _
    have h3 := H2.out.keep (w' := w3) (b3.block b H2.out.row.lt) (fun x hx => b3.block _ (H2.out.chain.lt x hx))
    obtain ⟨c0, c1, c2, f0, f1, f2⟩ := h3.row.cells
    have B3 := Lib.hid (B2.out.trans (b3.mono B2.out.size))
    have N3 := Lib.hid (show (∀ y ∈ ([] : List Lk), y.ad ≠ g3) ∧ w.heap.size ≤ g3 from ⟨fun y hy e => by have := H2.out.chain.lt y hy; omega, by rw [hg3]; exact B2.out.size⟩)
    have H3 := Lib.hid h3
    have X3 := Lib.hid x3
    have HW3 := Lib.hid hw3
    have HG3 := Lib.hid hg3
    clear b3 x3 h3 hw3 hg3
    replace c1 : w3.cell? ⟨b, o + 1, none⟩ = some (.pointer none) := c1
    go_upto_region 2 with fail
    have e3 : w2.alloc (.cells (Lk.cells ⟨k, s, 0⟩ none none) 118) = w3 := HW3.out.symm
    rw [e3, ← HG3.out]
    clear e3
    go_wp2_with fail
    go_ret
    refine ⟨g3, rfl, N3.out.2, H3.out.hangNil ⟨k, s, g3⟩ X3.out, ?_⟩
    exact (((Frm.of_below B3.out (Nat.le_refl _)).setCell (p := ⟨b, o, none⟩) (.inl (.inl rfl)) _).setCell (p := ⟨b, o + 1, none⟩) (.inl (.inl rfl)) _)
  | some a =>
    replace c1 : w1.cell? ⟨b, o + 1, none⟩ = some (.pointer (some ⟨a, 0, none⟩)) := by rw [c1, hl]; rfl
    have HA := Lib.hid hl
    clear hl
    go_enter Try.func46, Try.ntmps46
    go_upto_region 1 with fail
    rw [← HW.out, ← HG.out]
    refine wp_region_quiet_tail 6 (by kernel_rfl) (by kernel_rfl) ?_
    simp only [List.take_succ_cons, List.take_zero, List.drop_succ_cons, List.drop_zero]
    repeat (go_big_quiet_step (fail))
    refine wpQuiet_loadG (by kernel_rfl) 112 (.tmp 3) rfl ⟨g, 0, none⟩ rfl (wcs k s) _ (fun w' hC => by obtain ⟨nl, rfl⟩ := hC; exact KT) Try.underlying112 rfl (wtSize k s) ?_
    simp only [Act.put, List.setIfInBounds_toArray, List.set_cons_zero, List.set_cons_succ, List.getElem_toArray, List.getElem_cons_zero, List.getElem_cons_succ]
    repeat (go_big_quiet_step (fail))
    refine wpQuiet_runG (v := .agg (Lk.cells ⟨k, s, 0⟩ (some a) none)) (by kernel_rfl) (fun w' hC => by obtain ⟨nl, rfl⟩ := hC; kernel_rfl) ?_
    simp only [Act.put, List.setIfInBounds_toArray, List.set_cons_zero, List.set_cons_succ, List.getElem_toArray, List.getElem_cons_zero, List.getElem_cons_succ]
    refine wpQuiet_nil ?_
    intro _ hw'
    obtain ⟨nq, hw''⟩ := hw'
    subst hw''
    obtain ⟨w2, hw2⟩ : ∃ x, x = w1.drewN nq := ⟨_, rfl⟩
    rw [← hw2]
    have b2 : Below w1.heap.size w1 w2 := by rw [hw2]; exact below_drewN (Below.refl _ _) nq
    have B2 := Lib.hid (B1.out.trans (b2.mono B1.out.size))
    have H2 := Lib.hid (H1.out.keep (w' := w2) (b2.block b H1.out.row.lt) (fun x hx => b2.block _ (H1.out.chain.lt x hx)))
    clear hw2 b2 c0 c1 c2 KT
    obtain ⟨w3, hw3⟩ : ∃ x, x = w2.alloc (.cells (Lk.cells ⟨k, s, 0⟩ (some a) none) 118) := ⟨_, rfl⟩
    obtain ⟨g3, hg3⟩ : ∃ x, x = w2.heap.size := ⟨_, rfl⟩
    have b3 : Below w2.heap.size w2 w3 := by rw [hw3]; exact (Below.refl _ _).alloc (Nat.le_refl _) _
    have x3 : LkAt w3 ⟨k, s, g3⟩ (some a) none := by unfold LkAt; rw [hw3, hg3]; exact heap_alloc_new _ _
    have h3 := H2.out.keep (w' := w3) (b3.block b H2.out.row.lt) (fun x hx => b3.block _ (H2.out.chain.lt x hx))
    obtain ⟨c0, c1, c2, f0, f1, f2⟩ := h3.row.cells
    have B3 := Lib.hid (B2.out.trans (b3.mono B2.out.size))
    have N3 := Lib.hid (show (∀ y ∈ L, y.ad ≠ g3) ∧ w.heap.size ≤ g3 from ⟨fun y hy e => by have := H2.out.chain.lt y hy; omega, by rw [hg3]; exact B2.out.size⟩)
    have H3 := Lib.hid h3
    have X3 := Lib.hid x3
    have HW3 := Lib.hid hw3
    have HG3 := Lib.hid hg3
    clear b3 x3 h3 hw3 hg3
    replace c1 : w3.cell? ⟨b, o + 1, none⟩ = some (.pointer (some ⟨a, 0, none⟩)) := by rw [c1, HA.out]; rfl
    obtain ⟨A, y, hA, hya⟩ := lst_some HA.out
    have fa : w3.frozen? ⟨a, 5, none⟩ = false := by
      have hc := H3.out.chain
      rw [hA, chain_app] at hc
      rw [← hya]
      exact frozen_of_row w3 y.ad 5 _ _ hc.2.1
    have MA := Lib.hid (show ∃ x ∈ L, x.ad = a from ⟨y, by rw [hA]; simp, hya⟩)
    have ca : ∃ v, w3.cell? ⟨a, 5, none⟩ = some v := by
      have hc := H3.out.chain
      rw [hA, chain_app] at hc
      rw [← hya]
      exact ⟨_, by rw [cell_of_row w3 y.ad 5 _ _ _ hc.2.1]; rfl⟩
    obtain ⟨va, ca⟩ := ca
    clear hA hya
    obtain ⟨w4, hw4⟩ : ∃ x, x = w3.setCell ⟨a, 5, none⟩ (.pointer (some ⟨g3, 0, none⟩)) := ⟨_, rfl⟩
    have k4 : w4.heap[b]? = w3.heap[b]? := by
      rw [hw4]
      obtain ⟨x, hx, hxa⟩ := MA.out
      exact setCell_other _ _ _ (fun e => H3.out.sep x hx (hxa.trans e.symm))
    obtain ⟨d0, d1, d2, g0, g1, g2⟩ := (H3.out.row.keep k4).cells
    have HW4 := Lib.hid hw4
    clear hw4 k4 d0 d2 g0 g2
    go_upto_region 2 with fail
    have e3 : w2.alloc (.cells (Lk.cells ⟨k, s, 0⟩ (some a) none) 118) = w3 := HW3.out.symm
    rw [e3, ← HG3.out]
    clear e3
    go_upto_region 5 with fail
    rw [← HW4.out]
    go_wp2_with fail
    go_ret
    rw [HW4.out]
    refine ⟨g3, rfl, N3.out.2, H3.out.hangSome ⟨k, s, g3⟩ N3.out.1 HA.out X3.out, ?_⟩
    exact (((Frm.of_below B3.out (Nat.le_refl _)).setCell (p := ⟨a, 5, none⟩) (.inl (.inr MA.out)) _).setCell (p := ⟨b, o + 1, none⟩) (.inl (.inl rfl)) _)
end Go.Proofs.Ytkmhbbcppjckiaa.Qu
/- A link comes loose. -/
namespace Go.Proofs.Ytkmhbbcppjckiaa.Qu
open Go Go.RowKit Go.Proofs.Ytkmhbbcppjckiaa
open Go.Proofs.Ytkmhbbcppjckiaa.Hp (K3 kv KLit wf3 i64wf kv_inj)
open Go.Proofs.Ytkmhbbcppjckiaa.Dk (Frm below_drewN Frm.of_below Frm.setCell Frm.refl Frm.drewN)
set_option linter.unusedVariables false
set_option linter.unusedSimpArgs false
set_option maxRecDepth 100000
variable {w : World} {b o : Nat} {R : Array Value} {ty : TypeId} {mo : Option Nat}
theorem ptr_pointer (q : Option Nat) : ∃ p, ptr q = .pointer p := by cases q <;> exact ⟨_, rfl⟩
theorem loose_any {A B : List Lk} {x : Lk} (h : CAt w b o R ty mo (A ++ x :: B)) : Calls Try.prog 47 #[.pointer (some ⟨b, o, none⟩), .pointer (some ⟨x.ad, 0, none⟩)] w fun e w' =>
    e = .returned (.tuple #[]) ∧ CAt w' b o R ty mo (A ++ B) ∧ Frm (qT b (A ++ B)) w w' := by
  have hcx : LkAt w x (lst A none) (hd B none) := by
    have hc := h.chain
    rw [chain_app] at hc
    exact hc.2.1
  obtain ⟨c0, c1, c2, f0, f1, f2⟩ := h.row.cells
  have x4 : w.cell? ⟨x.ad, 4, none⟩ = some (ptr (lst A none)) := by rw [cell_of_row w x.ad 4 _ _ _ hcx]; rfl
  have x5 : w.cell? ⟨x.ad, 5, none⟩ = some (ptr (hd B none)) := by rw [cell_of_row w x.ad 5 _ _ _ hcx]; rfl
  obtain ⟨ax, hax⟩ : ∃ ax, ax = x.ad := ⟨_, rfl⟩
  rw [← hax] at x4 x5 ⊢
  have HAX := Lib.hid hax
  have H := Lib.hid h
  clear h hcx hax
  cases hl : lst A none with
  | none =>
    obtain ⟨rfl, _⟩ := lst_none hl
    replace x4 : w.cell? ⟨ax, 4, none⟩ = some (.pointer none) := x4
    obtain ⟨q5', hq5'⟩ := ptr_pointer (hd B none)
    obtain ⟨q5, hq5⟩ : ∃ q, Value.pointer q = ptr (hd B none) := ⟨q5', hq5'.symm⟩
    clear hq5'
    rw [← hq5] at x5
    obtain ⟨w1, hw1⟩ : ∃ x, x = w.setCell ⟨b, o, none⟩ (.pointer q5) := ⟨_, rfl⟩
    have M1 := Lib.hid (show MidAt w1 b o R ty mo [] x B by rw [hw1, hq5]; exact CAt.looseNil H.out)
    have F1 := Lib.hid (show Frm (qT b ([] ++ B)) w w1 by rw [hw1]; exact (Frm.refl _ w).setCell (p := ⟨b, o, none⟩) (.inl (.inl rfl)) _)
    have HW1 := Lib.hid hw1
    clear hw1 hq5 hl
    go_enter Try.func47, Try.ntmps47
    go_upto_region 3 with fail
    rw [← HW1.out]
    clear c0 c1 c2 f0 f1 f2 x4 x5
    obtain ⟨d0, d1, d2, g0, g1, g2⟩ := M1.out.row.cells
    have y4 : w1.cell? ⟨ax, 4, none⟩ = some (ptr (lst ([] : List Lk) none)) := by rw [HAX.out, cell_of_row w1 x.ad 4 _ _ _ M1.out.cx]; rfl
    have y5 : w1.cell? ⟨ax, 5, none⟩ = some (ptr (hd B none)) := by rw [HAX.out, cell_of_row w1 x.ad 5 _ _ _ M1.out.cx]; rfl
    obtain ⟨p4, hp4⟩ := ptr_pointer (lst ([] : List Lk) none)
    rw [hp4] at y4
    have HP4 := Lib.hid hp4
    clear hp4
    cases B with
    | nil =>
      replace y5 : w1.cell? ⟨ax, 5, none⟩ = some (.pointer none) := y5
      go_wp2_with fail
      go_end0
      rw [← HP4.out]
      refine ⟨rfl, ?_, ?_⟩
      · try rw [List.append_nil]
        exact M1.out.nil
      · exact F1.out.setCell (p := ⟨b, o + 1, none⟩) (.inl (.inl rfl)) _
    | cons z B =>
      replace y5 : w1.cell? ⟨ax, 5, none⟩ = some (.pointer (some ⟨z.ad, 0, none⟩)) := y5
      have fz : w1.frozen? ⟨z.ad, 4, none⟩ = false := frozen_of_row w1 z.ad 4 _ _ M1.out.cb.1
      have cz : w1.cell? ⟨z.ad, 4, none⟩ = some (ptr (some x.ad)) := by rw [cell_of_row w1 z.ad 4 _ _ _ M1.out.cb.1]; rfl
      obtain ⟨az, hz⟩ : ∃ az, az = z.ad := ⟨_, rfl⟩
      rw [← hz] at y5 fz cz
      have HZ := Lib.hid hz
      clear hz
      go_upto_region 5 with fail
      refine wp_region_quiet_tail 10 (by kernel_rfl) (by kernel_rfl) ?_
      simp only [List.take_succ_cons, List.take_zero, List.drop_succ_cons, List.drop_zero]
      repeat (go_big_quiet_step (fail))
      refine wpQuiet_nil ?_
      intro _ hw'
      obtain ⟨nq, hw''⟩ := hw'
      subst hw''
      obtain ⟨w2, hw2⟩ : ∃ w2, w2 = w1.drewN nq := ⟨_, rfl⟩
      rw [← hw2]
      replace fz : w2.frozen? ⟨az, 4, none⟩ = false := by rw [hw2]; exact fz
      replace cz : w2.cell? ⟨az, 4, none⟩ = some (ptr (some x.ad)) := by rw [hw2]; exact cz
      have M2 := Lib.hid (show MidAt w2 b o R ty mo ([] : List Lk) x (z :: B) by rw [hw2]; exact ⟨⟨M1.out.row.row, M1.out.row.room, M1.out.row.typ⟩, M1.out.ca.keep fun _ _ => rfl, M1.out.cx, M1.out.cb.keep fun _ _ => rfl, M1.out.ads⟩)
      have F2 := Lib.hid (show Frm (qT b (([] : List Lk) ++ z :: B)) w w2 by rw [hw2]; exact F1.out.drewN nq)
      clear hw2 d0 d1 d2 g0 g1 g2 y4 y5
      go_wp2_with fail
      go_end0
      rw [← HP4.out]
      refine ⟨rfl, ?_, ?_⟩
      · rw [HZ.out]
        exact M2.out.some
      · rw [HZ.out]
        exact F2.out.setCell (p := ⟨z.ad, 4, none⟩) (.inl (.inr ⟨z, by simp, rfl⟩)) _
  | some a =>
    rw [hl] at x4
    replace x4 : w.cell? ⟨ax, 4, none⟩ = some (.pointer (some ⟨a, 0, none⟩)) := x4
    obtain ⟨q5', hq5'⟩ := ptr_pointer (hd B none)
    obtain ⟨q5, hq5⟩ : ∃ q, Value.pointer q = ptr (hd B none) := ⟨q5', hq5'.symm⟩
    clear hq5'
    rw [← hq5] at x5
    obtain ⟨A0, y, hA, hya⟩ := lst_some hl
    have hy : LkAt w y (lst A0 none) (some x.ad) := by
      have hc := H.out.chain
      rw [hA, List.append_assoc, chain_app] at hc
      exact hc.2.1
    have fa : w.frozen? ⟨a, 5, none⟩ = false := by rw [← hya]; exact frozen_of_row w y.ad 5 _ _ hy
    have ca : w.cell? ⟨a, 5, none⟩ = some (ptr (some x.ad)) := by rw [← hya, cell_of_row w y.ad 5 _ _ _ hy]; rfl
    have MA := Lib.hid (show ∃ z ∈ A ++ B, z.ad = a from ⟨y, by rw [hA]; simp, hya⟩)
    have HL := Lib.hid hl
    have HQ5 := Lib.hid hq5
    clear hA hya hy hl hq5
    go_enter Try.func47, Try.ntmps47
    go_upto_region 2 with fail
    refine wp_region_quiet_tail 10 (by kernel_rfl) (by kernel_rfl) ?_
    simp only [List.take_succ_cons, List.take_zero, List.drop_succ_cons, List.drop_zero]
    repeat (go_big_quiet_step (fail))
    refine wpQuiet_nil ?_
    intro _ hw'
    obtain ⟨nq, hw''⟩ := hw'
    subst hw''
    obtain ⟨w0, hw0⟩ : ∃ w0, w0 = w.drewN nq := ⟨_, rfl⟩
    rw [← hw0]
    replace fa : w0.frozen? ⟨a, 5, none⟩ = false := by rw [hw0]; exact fa
    replace ca : w0.cell? ⟨a, 5, none⟩ = some (ptr (some x.ad)) := by rw [hw0]; exact ca
    obtain ⟨w1, hw1⟩ : ∃ x, x = w0.setCell ⟨a, 5, none⟩ (.pointer q5) := ⟨_, rfl⟩
    have M1 := Lib.hid (show MidAt w1 b o R ty mo A x B by rw [hw1, HQ5.out]; exact CAt.looseSome (w := w0) (by rw [hw0]; exact H.out.keep rfl fun _ _ => rfl) HL.out)
    have F1 := Lib.hid (show Frm (qT b (A ++ B)) w w1 by rw [hw1, hw0]; exact ((Frm.refl _ w).drewN nq).setCell (p := ⟨a, 5, none⟩) (.inl (.inr MA.out)) _)
    have HW1 := Lib.hid hw1
    clear hw1 hw0 c0 c1 c2 f0 f1 f2 x4 x5
    go_upto_region 3 with fail
    rw [← HW1.out]
    clear fa ca
    obtain ⟨d0, d1, d2, g0, g1, g2⟩ := M1.out.row.cells
    have y4 : w1.cell? ⟨ax, 4, none⟩ = some (ptr (lst A none)) := by rw [HAX.out, cell_of_row w1 x.ad 4 _ _ _ M1.out.cx]; rfl
    have y5 : w1.cell? ⟨ax, 5, none⟩ = some (ptr (hd B none)) := by rw [HAX.out, cell_of_row w1 x.ad 5 _ _ _ M1.out.cx]; rfl
    obtain ⟨p4, hp4⟩ := ptr_pointer (lst A none)
    rw [hp4] at y4
    have HP4 := Lib.hid hp4
    clear hp4
    cases B with
    | nil =>
      replace y5 : w1.cell? ⟨ax, 5, none⟩ = some (.pointer none) := y5
      go_wp2_with fail
      go_end0
      rw [← HP4.out]
      refine ⟨rfl, ?_, ?_⟩
      · try rw [List.append_nil]
        exact M1.out.nil
      · exact F1.out.setCell (p := ⟨b, o + 1, none⟩) (.inl (.inl rfl)) _
    | cons z B =>
      replace y5 : w1.cell? ⟨ax, 5, none⟩ = some (.pointer (some ⟨z.ad, 0, none⟩)) := y5
      have fz : w1.frozen? ⟨z.ad, 4, none⟩ = false := frozen_of_row w1 z.ad 4 _ _ M1.out.cb.1
      have cz : w1.cell? ⟨z.ad, 4, none⟩ = some (ptr (some x.ad)) := by rw [cell_of_row w1 z.ad 4 _ _ _ M1.out.cb.1]; rfl
      obtain ⟨az, hz⟩ : ∃ az, az = z.ad := ⟨_, rfl⟩
      rw [← hz] at y5 fz cz
      have HZ := Lib.hid hz
      clear hz
      go_upto_region 5 with fail
      refine wp_region_quiet_tail 10 (by kernel_rfl) (by kernel_rfl) ?_
      simp only [List.take_succ_cons, List.take_zero, List.drop_succ_cons, List.drop_zero]
      repeat (go_big_quiet_step (fail))
      refine wpQuiet_nil ?_
      intro _ hw'
      obtain ⟨nq, hw''⟩ := hw'
      subst hw''
      obtain ⟨w2, hw2⟩ : ∃ w2, w2 = w1.drewN nq := ⟨_, rfl⟩
      rw [← hw2]
      replace fz : w2.frozen? ⟨az, 4, none⟩ = false := by rw [hw2]; exact fz
      replace cz : w2.cell? ⟨az, 4, none⟩ = some (ptr (some x.ad)) := by rw [hw2]; exact cz
      have M2 := Lib.hid (show MidAt w2 b o R ty mo A x (z :: B) by rw [hw2]; exact ⟨⟨M1.out.row.row, M1.out.row.room, M1.out.row.typ⟩, M1.out.ca.keep fun _ _ => rfl, M1.out.cx, M1.out.cb.keep fun _ _ => rfl, M1.out.ads⟩)
      have F2 := Lib.hid (show Frm (qT b (A ++ z :: B)) w w2 by rw [hw2]; exact F1.out.drewN nq)
      clear hw2 d0 d1 d2 g0 g1 g2 y4 y5
      go_wp2_with fail
      go_end0
      rw [← HP4.out]
      refine ⟨rfl, ?_, ?_⟩
      · rw [HZ.out]
        exact M2.out.some
      · rw [HZ.out]
        exact F2.out.setCell (p := ⟨z.ad, 4, none⟩) (.inl (.inr ⟨z, by simp, rfl⟩)) _
end Go.Proofs.Ytkmhbbcppjckiaa.Qu
/- A region that draws its order but for its last operation (a store that waits for all others): of no program. -/
namespace Go.Proofs.Ytkmhbbcppjckiaa
open Go
section
variable {P : Program} {ops : Array Oper} {Q : Exit → Act → World → Prop}
/-- Which operations an operation waits for. -/
def depsO (ops : Array Oper) (j : Nat) : List Nat := match ops[j]? with
  | some o => (o.after.toList.filter (Region.binds .any)).map (·.on)
  | none => []
def reachO (ops : Array Oper) : Nat → List Nat → List Nat
  | 0, S => S
  | f + 1, S => S ++ reachO ops f (S.flatMap (depsO ops)).eraseDups
def lastO (ops : Array Oper) (n : Nat) : Bool := (List.range n).all fun i => (reachO ops n [n]).contains i
def ClosO (ops : Array Oper) (L : Nat → Bool) : Prop := ∀ j o, ops[j]? = some o → L j = true → ∀ e ∈ o.after, Region.binds .any e = true → L e.on = true
theorem mem_eraseDups_le {l : List Nat} {a : Nat} (h : a ∈ l.eraseDups) : a ∈ l := by simpa using h
theorem reach_all {L : Nat → Bool} (hc : ClosO ops L) : ∀ (f : Nat) (S : List Nat), (∀ j ∈ S, L j = true) → ∀ j ∈ reachO ops f S, L j = true
  | 0, S, h => h
  | f + 1, S, h => by
    intro j hj
    rw [reachO] at hj
    rcases List.mem_append.1 hj with hj | hj
    · exact h j hj
    · refine reach_all hc f _ (fun i hi => ?_) j hj
      have hi := mem_eraseDups_le hi
      obtain ⟨k, hk, hi⟩ := List.mem_flatMap.1 hi
      unfold depsO at hi
      cases ho : ops[k]? with
      | none => rw [ho] at hi; cases hi
      | some o =>
        rw [ho] at hi
        obtain ⟨e, he, rfl⟩ := List.mem_map.1 hi
        obtain ⟨h1, h2⟩ := List.mem_filter.1 he
        exact hc k o ho (h k hk) e (by simpa using h1) h2
theorem last_all {L : Nat → Bool} {n : Nat} (hc : ClosO ops L) (hl : lastO ops n = true) (hn : L n = true) : ∀ i, i < n → L i = true := by
  intro i hi
  have h1 := List.all_eq_true.1 hl i (List.mem_range.2 hi)
  exact reach_all hc n [n] (fun j hj => by rw [List.mem_singleton.1 hj]; exact hn) i (by simpa using h1)
/-- Whatever the order of the others, the last operation comes behind them all. -/
theorem wp_region_slotsM {id : Nat} {a : Act} {w : World} (n : Nat) (hm : P.follows .mixedOrders = true) (hback : backOkG ops = true) (hsz : ops.size = n + 1) (hl : lastO ops n = true) (mk : (Nat → Value) → Act) (K : (Nat → Bool) → (Nat → Value) → World → Prop) (E : (Nat → Value) → World → Prop)
    (hstep : ∀ i o, i < n → ops[i]? = some o → ∀ (L : Nat → Bool) (x : Nat → Value) (w : World), (∀ e ∈ o.after, Region.binds .any e = true → L e.on = true) → L i = false → K L x w →
      (Region.wanted o (yielded ops (mk x).tmps) = true ∧ o.wp P (mk x) w (fun a' w' => ∃ v, a' = mk (upd x i v) ∧ K (upd L i true) (upd x i v) w') Q) ∨
      (Region.wanted o (yielded ops (mk x).tmps) = false ∧ ∃ v, (mk x).put o.dst undef = mk (upd x i v) ∧ K (upd L i true) (upd x i v) w))
    (hlast : ∀ o, ops[n]? = some o → ∀ (L : Nat → Bool) (x : Nat → Value) (w : World), (∀ j, j < n → L j = true) → K L x w → Region.wanted o (yielded ops (mk x).tmps) = true ∧ o.wp P (mk x) w (fun a' w' => ∃ v, a' = mk (upd x n v) ∧ E (upd x n v) w') Q)
    (hend : ∀ x w, E x w → Q .normal (mk x) w)
    (x0 : Nat → Value) (h0 : a = mk x0) (hS : K (fun _ => false) x0 w.drew) : (Code.region id ops true).wp P Q a w := by
  refine wp_region_slotsJ hm hback mk (fun L x w => ClosO ops L ∧ (L n = true → (∀ j, j < n → L j = true) ∧ E x w) ∧ (L n = false → K L x w)) ?_ ?_ x0 h0 ⟨(fun j o _ h => by cases h), (fun h => by cases h), fun _ => hS⟩
  · rintro i o ho L x w hd hi ⟨hc, hpost, hpre⟩
    have hilt : i < ops.size := (Array.getElem?_eq_some_iff.1 ho).1
    have hcl : ClosO ops (upd L i true) := by
      intro j o' ho' hj e he hb
      by_cases hei : e.on = i
      · rw [hei, upd_self]
      · rw [upd_ne _ _ hei]
        by_cases hji : j = i
        · subst hji
          rw [ho] at ho'
          obtain rfl := Option.some.inj ho'
          exact hd e he hb
        · rw [upd_ne _ _ hji] at hj
          exact hc j o' ho' hj e he hb
    by_cases hin : i = n
    · subst hin
      have hall := last_all hcl hl (upd_self _ _ _)
      have hall' : ∀ j, j < i → L j = true := fun j hj => by have := hall j hj; rwa [upd_ne _ _ (by omega)] at this
      obtain ⟨hw, h3⟩ := hlast o ho L x w hall' (hpre hi)
      refine .inl ⟨hw, Oper.wp_mono (fun a' w' h' => ?_) h3⟩
      obtain ⟨v, rfl, he⟩ := h'
      exact ⟨v, rfl, hcl, fun _ => ⟨hall, he⟩, fun h => by rw [upd_self] at h; cases h⟩
    · have hln : L n = false := by
        cases h : L n with
        | false => rfl
        | true => have := (hpost h).1 i (by omega); rw [this] at hi; cases hi
      have hupn : upd L i true n = false := by rw [upd_ne _ _ (fun e => hin e.symm)]; exact hln
      rcases hstep i o (by omega) ho L x w hd hi (hpre hln) with ⟨hw, h3⟩ | ⟨hw, v, hv, hf⟩
      · refine .inl ⟨hw, Oper.wp_mono (fun a' w' h' => ?_) h3⟩
        obtain ⟨v, rfl, hf⟩ := h'
        exact ⟨v, rfl, hcl, (fun h => by rw [hupn] at h; cases h), fun _ => hf⟩
      · exact .inr ⟨hw, v, hv, hcl, (fun h => by rw [hupn] at h; cases h), fun _ => hf⟩
  · rintro L x w hall ⟨_, hpost, _⟩
    exact hend x w (hpost (hall n (by omega))).2
end
end Go.Proofs.Ytkmhbbcppjckiaa
