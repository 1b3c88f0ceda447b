/- A region that draws its order: a head of operations that only read (calls may draw), then a tail in forced order. -/
import Derived.Deep.QuietTactic
import Derived.BigQuiet
import Derived.StillTail
namespace Go.Proofs.YtbihhnnafpgdoaaDoor
open Go
section
variable {P : Program} {ops : Array Oper} {C : World → Prop}

/-- The operations of these numbers, one behind the other. -/
def quietAlong (P : Program) (ops : Array Oper) (C : World → Prop) (Q : Act → Prop) : List Nat → Act → Prop
  | [], a => Q a
  | i :: l, a => qOp P ops C i (quietAlong P ops C Q l) a

theorem quietAlong_of {Q : Act → Prop} : ∀ (l : List Oper) (k : Nat) (a : Act), (∀ j, j < l.length → l[j]? = ops[k + j]?) → wpQuiet P ops C Q l a → quietAlong P ops C Q (List.range' k l.length) a
  | [], _, _, _, h => h
  | o :: l, k, a, hl, h => by
    have h0 : ops[k]? = some o := by simpa using (hl 0 (by simp)).symm
    have h1 : qOp P ops C k (wpQuiet P ops C Q l) a := by unfold qOp; simp only [h0]; exact h
    exact qOp_mono (fun a' h' => quietAlong_of l (k + 1) a' (fun j hj => by have := hl (j + 1) (by simp; omega); simpa [Nat.add_assoc, Nat.add_comm 1 j] using this) h') h1

/-- One of them is taken ahead of those that stand before it, if it is apart from them. -/
theorem quietAlong_ahead {Q : Act → Prop} (hs : Region.noSelect ops = true) {i : Nat} {oi : Oper} (hi : ops[i]? = some oi) : ∀ (l : List Nat) (a : Act), l.Nodup → i ∈ l →
    (∀ k ∈ l, ∃ ok, ops[k]? = some ok ∧ (k < i → ok.apart ops oi = true)) → l.Pairwise (· < ·) → quietAlong P ops C Q l a → qOp P ops C i (quietAlong P ops C Q (l.erase i)) a
  | [], _, _, hm, _, _, _ => by cases hm
  | k :: l, a, hnd, hm, hap, hp, h => by
    by_cases hk : k = i
    · subst hk
      rw [List.erase_cons_head]
      exact h
    · have hml : i ∈ l := by
        cases hm with
        | head => exact absurd rfl hk
        | tail _ h' => exact h'
      obtain ⟨ok, hok, hka⟩ := hap k (by simp)
      have hki : k < i := (List.pairwise_cons.1 hp).1 i hml
      obtain ⟨v, hy, hK⟩ := yieldsIn_of_qOp hok h
      have ih := quietAlong_ahead hs hi l _ (List.nodup_cons.1 hnd).2 hml (fun k' hk' => hap k' (List.mem_cons_of_mem _ hk')) (List.pairwise_cons.1 hp).2 hK
      have h2 := qOp_put hi (hka hki) (fun cs b => Region.noSelect_spec hs k ok cs b hok) (fun cs b => Region.noSelect_spec hs i oi cs b hi) hy ih
      rw [List.erase_cons_tail (by simpa using hk)]
      exact qOp_mono (fun a' h' => h'.1.qOp hok h'.2) h2

/-- Each of the first n waits for earlier ones alone; and of two of them the later one waits for the other, or they are apart. -/
def headOk (ops : Array Oper) (n : Nat) : Bool :=
  (List.range n).all fun i => match ops[i]? with
    | none => false
    | some oi => (oi.after.all fun e => !Region.binds .any e || decide (e.on < i)) && (List.range i).all fun k => (oi.after.any fun e => Region.binds .any e && e.on == k) || (match ops[k]? with | some ok => ok.apart ops oi | none => false)
def listedTo (m n : Nat) : Array Bool := ((List.range m).map (fun j => decide (j < n))).toArray
def tailOk (ops : Array Oper) (n : Nat) : Bool :=
  Region.noSelect ops && decide (n < ops.size) && Region.sinkB .any ops n && Region.chainB .any ops n && headOk ops n && Region.seqB .any ops (ops.size - n) n (listedTo ops.size n)

theorem headOk_spec {n i : Nat} (h : headOk ops n = true) (hi : i < n) : ∃ oi, ops[i]? = some oi ∧ (∀ e ∈ oi.after, Region.binds .any e = true → e.on < i) ∧
    ∀ k, k < i → (∃ e ∈ oi.after, Region.binds .any e = true ∧ e.on = k) ∨ ∃ ok, ops[k]? = some ok ∧ ok.apart ops oi = true := by
  have h1 := List.all_eq_true.1 h i (List.mem_range.2 hi)
  split at h1
  · cases h1
  · rename_i oi hoi
    simp only [Bool.and_eq_true] at h1
    refine ⟨oi, hoi, fun e he hb => ?_, fun k hk => ?_⟩
    · have := Array.all_eq_true'.1 h1.1 e he
      simpa [hb] using this
    · have := List.all_eq_true.1 h1.2 k (List.mem_range.2 hk)
      simp only [Bool.or_eq_true] at this
      rcases this with h2 | h2
      · obtain ⟨e, he, hb⟩ := Array.any_eq_true'.1 h2
        simp only [Bool.and_eq_true, beq_iff_eq] at hb
        exact .inl ⟨e, he, hb.1, hb.2⟩
      · split at h2
        · rename_i ok hok; exact .inr ⟨ok, hok, h2⟩
        · cases h2

theorem head_then {Q : Act → Prop} {Q' : Exit → Act → World → Prop} {n g : Nat} (hs : Region.noSelect ops = true) (hn : n < ops.size) (hsk : Region.sinkB .any ops n = true) (hch : Region.chainB .any ops n = true) (hh : headOk ops n = true)
    (hQ : ∀ a w, C w → Q a → wpAny P .any ops Q' g (listedTo ops.size n) a w) :
    ∀ (f : Nat) (l : List Nat) (listed : Array Bool) (a : Act) (w : World), l.length = f → C w → HeadInv .any ops n listed → l.Pairwise (· < ·) → (∀ k ∈ l, k < n) →
      (∀ k, k < n → (listed.getD k true = false ↔ k ∈ l)) → quietAlong P ops C Q l a → wpAny P .any ops Q' (f + g) listed a w := by
  intro f
  induction f with
  | zero =>
    intro l listed a w hf hw inv _ _ hl h
    have hl0 : l = [] := List.length_eq_zero_iff.1 hf
    subst hl0
    have he : listed = listedTo ops.size n := by
      apply Array.ext
      · simp [inv.size, listedTo]
      · intro j h1 h2
        have hb : listed[j] = listed.getD j true := by simp [h1]
        have hjs : j < ops.size := by rw [← inv.size]; exact h1
        rw [hb]
        have e2 : (listedTo ops.size n)[j] = decide (j < n) := by simp [listedTo]
        rw [e2]
        by_cases hj : j < n
        · have := hl j hj
          simp only [List.not_mem_nil, iff_false, Bool.not_eq_false] at this
          simp [this, hj]
        · rw [inv.tail j (by omega) hjs]; simp [hj]
    rw [he, Nat.zero_add]
    exact hQ a w hw h
  | succ f ih =>
    intro l listed a w hf hw inv hp hln hl h
    have hnd : l.Nodup := hp.imp (fun h => Nat.ne_of_lt h)
    rw [show f + 1 + g = (f + g) + 1 by omega]
    obtain ⟨k0, l0, rfl⟩ : ∃ k0 l0, l = k0 :: l0 := by
      cases l with
      | nil => cases hf
      | cons k0 l0 => exact ⟨k0, l0, rfl⟩
    have hk0 : k0 < n := hln k0 (by simp)
    have hun0 := (hl k0 hk0).2 (by simp)
    refine ⟨fun h0 => ?_, fun i hi => ?_⟩
    · exfalso
      obtain ⟨o0, ho0, haf, _⟩ := headOk_spec hh hk0
      have : k0 ∈ Region.ready .any ops listed := mem_ready.2 ⟨hun0, o0, ho0, fun e he hb => by
        have hlt := haf e he hb
        have hon : e.on ∉ k0 :: l0 := by
          intro hmem
          rcases List.mem_cons.1 hmem with h1 | h1
          · omega
          · have := (List.pairwise_cons.1 hp).1 _ h1; omega
        have h2 := mt (hl e.on (by omega)).1 hon
        have hsz : e.on < listed.size := by rw [inv.size]; omega
        simp [hsz] at h2 ⊢
        exact h2⟩
      rw [h0] at this
      cases this
    · have hin : i < n := by
        rcases Nat.lt_or_ge i n with h' | h'
        · exact h'
        · exact absurd hi (tail_waits hsk hch hn inv _ k0 rfl hk0 hun0 i h')
      obtain ⟨hiu, oi, hoi, hall⟩ := mem_ready.1 hi
      have him := (hl i hin).1 hiu
      have hq := quietAlong_ahead hs hoi (k0 :: l0) a hnd him (fun k hk => by
        have hkn := hln k hk
        obtain ⟨ok, hok, _, _⟩ := headOk_spec hh hkn
        refine ⟨ok, hok, fun hki => ?_⟩
        obtain ⟨oi', hoi', _, hw2⟩ := headOk_spec hh hin
        obtain rfl : oi' = oi := Option.some.inj (hoi'.symm.trans hoi)
        rcases hw2 k hki with ⟨e, he, hb, hon⟩ | ⟨ok', hok', hap⟩
        · have h1 := hall e he hb
          have h2 := (hl k hkn).2 hk
          rw [hon, getD_both h2] at h1
          cases h1
        · obtain rfl : ok' = ok := Option.some.inj (hok'.symm.trans hok)
          exact hap) hp h
      refine wpOp_of_qOp hw (fun a' w' hw' h' => ih ((k0 :: l0).erase i) (listed.setIfInBounds i true) a' w' ?_ hw' (inv.set hi hin) (hp.sublist List.erase_sublist) (fun k hk => hln k (List.mem_of_mem_erase hk)) ?_ h') hq
      · rw [List.length_erase_of_mem him, hf]; rfl
      · intro k hk
        by_cases hki : i = k
        · subst hki
          have hsz : i < listed.size := by rw [inv.size]; omega
          constructor
          · intro h1
            simp [hsz] at h1
          · intro h1
            exact absurd h1 (List.Nodup.not_mem_erase hnd)
        · rw [getD_set_ne true hki, hl k hk, List.Nodup.mem_erase_iff hnd]
          exact ⟨fun h1 => ⟨Ne.symm hki, h1⟩, fun h1 => h1.2⟩

theorem wp_region_quiet_tail {id : Nat} {Q : Exit → Act → World → Prop} {a : Act} {w : World} {l : List Oper} (n : Nat) (hm : P.follows .mixedOrders = true) (hB : tailOk l.toArray n = true)
    (h : wpQuiet P l.toArray (fun w' => ∃ m, w' = w.drewN m) (fun a' => ∀ w', (∃ m, w' = w.drewN m) → wpList P l.toArray Q (l.drop n) a' w') (l.take n) a) : (Code.region id l.toArray true).wp P Q a w := by
  simp only [tailOk, Bool.and_eq_true, decide_eq_true_eq] at hB
  obtain ⟨⟨⟨⟨⟨hs, hn⟩, hsk⟩, hch⟩, hh⟩, hseq⟩ := hB
  have hn' : n < l.length := by simpa using hn
  have htl : (l.take n).length = n := by simp; omega
  have hdl : (l.drop n).length = l.toArray.size - n := by simp
  have inv0 : HeadInv .any l.toArray n (Array.replicate l.toArray.size false) :=
    ⟨by simp, fun j oj _ hl => (by rw [getD_replicate_false] at hl; cases hl), fun t _ ht => getD_in (by simpa using ht) (getD_replicate_false _ _)⟩
  have hq := quietAlong_of (ops := l.toArray) (l.take n) 0 a (fun j hj => by
    have hj' : j < n := by rw [htl] at hj; exact hj
    simp [hj']) h
  rw [htl] at hq
  refine wp_region_any hm ?_
  have := head_then (C := fun w' => ∃ m, w' = w.drewN m) (Q' := Q) (g := l.toArray.size - n) hs hn hsk hch hh (fun a' w' hw' hL => by
    have := wpAny_of_seq (md := .any) (Q' := Q) (l.drop n) n (listedTo l.toArray.size n) a' w' (fun j => by simp [List.getElem?_drop]) (by rw [hdl]; exact hseq) (hL w' hw')
    rwa [hdl] at this) n (List.range' 0 n) (Array.replicate l.toArray.size false) a _ (by simp) ⟨1, rfl⟩ inv0 (by simpa using (List.pairwise_lt_range' (s := 0) (n := n) (step := 1))) (fun k hk => by simp at hk; omega)
    (fun k hk => ⟨fun _ => by simp; omega, fun _ => by have : k < l.length := by omega
                                                       simp [this]⟩) hq
  rw [show n + (l.toArray.size - n) = l.toArray.size by omega] at this
  exact this
end
end Go.Proofs.YtbihhnnafpgdoaaDoor
