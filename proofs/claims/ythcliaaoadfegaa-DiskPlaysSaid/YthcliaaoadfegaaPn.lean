/- What Pending answers: the keys of what was written, rising; by the library's contracts. -/
import Derived.Test.YthcliaaoadfegaaPl
import Derived.Test.YthcliaaoadfegaaDc
import Derived.RegionIn
import Derived.OwnWalkIn
namespace Go.Proofs.Ythcliaaoadfegaa.Dk
open Go Go.RowKit Go.Maps Go.Sort Go.Shelf
set_option linter.unusedVariables false
set_option linter.unusedSimpArgs false

/-- slices.Sort's two contracts, where nothing is fenced. -/
theorem Try.sortsA (m : Nat) : AnyZI.SortsIn Try.prog Try.sortedA_ren Fence.wide m :=
  ⟨fun blk off cap ss W hH hblk hsz => callsIn_wide.2 (AnyM.slices_Sort_int Try.sortA blk off cap ss W hH hblk hsz),
   fun p cap W => callsIn_wide.2 (AnyM.slices_Sort_int_none Try.sortA p cap W)⟩
/-- Numbers that rise. -/
def Rising (ss : List Int) : Prop := ss.Pairwise (fun a b => a < b)
/-- The numbers of the sectors that were written and aren't durable. -/
def PendS (S : Int → Option (List UInt8)) (ss : List Int) : Prop := Rising ss ∧ ∀ i, i ∈ ss ↔ (wfi i ∧ (S i).isSome = true)
theorem pend_of {w : World} {m n : Nat} {S : Int → Option (List UInt8)} {D : DataW Unit} (hown : w.ownsMap Try.prog 3 secElem m n D) (hS : ∀ x, wfi x → S x = viewAt D x) {ss : List Int} (hp : ss.Perm (Go.intKeys D)) : PendS S (ss.mergeSort fun x y => decide (x ≤ y)) := by
  obtain ⟨es, hD, hpw, _⟩ := hown.entries (int_keyed Try.underlying3)
  obtain ⟨es', hD', hko⟩ := hown.keysOf
  obtain rfl : es = es' := by rw [hD] at hD'; simpa using hD'
  have hk : ∀ p ∈ es, ∃ x, p.1 = .int .i64 x ∧ wfi x := fun p hp => by
    obtain ⟨v, hv⟩ := hko p hp
    obtain ⟨x, _, hx, hl⟩ := Maps.keyOf_i64 Try.underlying3 hv
    exact ⟨x, hx, hl⟩
  have hpm := (List.mergeSort_perm ss fun x y => decide (x ≤ y)).trans hp
  subst hD
  have hnd : (Go.intKeys (.map es : DataW Unit)).Nodup := by
    show (es.map fun p => Go.intOf p.1).Nodup
    refine List.pairwise_map.2 (hpw.imp_of_mem fun {p q} hp' hq' hne e => hne ?_)
    obtain ⟨a, ha, _⟩ := hk p hp'
    obtain ⟨b, hb, _⟩ := hk q hq'
    rw [ha, hb] at e ⊢
    exact congrArg _ e
  refine ⟨?_, fun i => ?_⟩
  · have h1 : (ss.mergeSort fun x y => decide (x ≤ y)).Pairwise (fun a b => decide (a ≤ b) = true) :=
      List.pairwise_mergeSort (fun a b c h1 h2 => by simp only [decide_eq_true_eq] at *; exact Int.le_trans h1 h2) (fun a b => by simp only [Bool.or_eq_true, decide_eq_true_eq]; exact Int.le_total a b) ss
    have h2 : (ss.mergeSort fun x y => decide (x ≤ y)).Nodup := hpm.nodup_iff.2 hnd
    refine (h1.and h2).imp ?_
    rintro a b ⟨h3, h4⟩
    simp only [decide_eq_true_eq] at h3
    omega
  · rw [hpm.mem_iff]
    show i ∈ es.map (fun p => Go.intOf p.1) ↔ _
    have hv : wfi i → (S i).isSome = Maps.has (.map es : DataW Unit) (.int .i64 i) := fun hi => by
      rw [hS i hi]
      unfold viewAt
      split
      · rename_i h; rw [h]; rfl
      · rename_i h; simp at h; rw [h]; rfl
    rw [List.mem_map]
    constructor
    · rintro ⟨p, hp', hpi⟩
      obtain ⟨a, ha, hw⟩ := hk p hp'
      obtain rfl : i = a := by rw [← hpi, ha]; rfl
      refine ⟨hw, ?_⟩
      rw [hv hw, has_eq, List.any_eq_true]
      exact ⟨p, hp', by rw [ha]; simp [Lit.sameKey]⟩
    · rintro ⟨hw, hs⟩
      rw [hv hw, has_eq, List.any_eq_true] at hs
      obtain ⟨p, hp', hs⟩ := hs
      obtain ⟨a, ha, _⟩ := hk p hp'
      rw [ha] at hs
      exact ⟨p, hp', by rw [ha]; simpa [Lit.sameKey, Go.intOf] using hs⟩
set_option maxRecDepth 100000 in
set_option maxHeartbeats 1000000 in
theorem pending_any {w : World} {d g m n : Nat} {x : DS} (h : DiskAt Try.prog w d g m n x) (hn : n ≤ 1000000000) :
    Calls Try.prog 34 #[.pointer (some ⟨d, 0, none⟩)] w fun e w' => ∃ (v : Value) (ss : List Int), e = .returned v ∧ PendS x.S ss ∧
      w'.ownsRow w.heap.size 3 1 v ss.length (ss.map (Value.int .i64)) ∧ (v = .slice none 0 0 ↔ ss = []) ∧ Below w.heap.size w w' := by
  obtain ⟨D, hown, hS⟩ := h.map
  have c3 := h.c3
  have hml := h.mlt
  have hsz := hown.size_le
  clear h
  refine (callsIn_wide (n := 6)).1 ?_
  have hbl := hown.lt
  have hseq : SeqGives Fence.wide 2 Try.prog 51 #[.pointer (some ⟨w.heap.size, 0, none⟩)] Go.encZ (fun ss => ss.Perm (Go.intKeys D)) (Maps.size D) (w.alloc (.cells #[.map (some m)] 51)) :=
    AnyZI.keys_gives (ρ := Try.keysA_ren) { Try.keysA with } Fence.wide _ trivial rfl (by omega) w.heap.size m n D _ (by simp) (by simp) (by
      obtain ⟨es, clock, hb, Ft, hs, hD⟩ := hown
      exact ⟨es, clock, (Below.heap_alloc _ _ m hbl).trans hb, Ft, hs, hD⟩)
  have cK : ∀ mb W, CallsIn Fence.wide 5 Try.prog 47 #[.map mb] W fun e w' => e = .returned (.func (.func 51) #[] #[.pointer (some ⟨W.heap.size, 0, none⟩)]) ∧ w' = W.alloc (.cells #[.map mb] 51) := fun mb W => AnyZI.keys_in Try.keysA Fence.wide 5 trivial rfl mb W
  have cS := AnyZI.sorted_in Try.sortedA Fence.wide 5 trivial trivial trivial trivial rfl (by omega) (Try.sortsA _) (enters_of Try.func50 (by kernel_rfl) rfl) 51 #[.pointer (some ⟨w.heap.size, 0, none⟩)] trivial (enters_of Try.func51 (by kernel_rfl) rfl) _ _ (by unfold maxLen; omega) (by omega) _ hseq
  change CallsIn _ _ Try.prog 46 _ _ _ at cS
  have hfK : Fence.wide.fn 47 := trivial
  have hfS : Fence.wide.fn 46 := trivial
  have HO := Lib.hid hown
  have HS := Lib.hid hS
  clear hown hS hseq
  refine callsIn_of_wp Try.func34 rfl trivial ?_ rfl
  simp only [Try.ntmps34, List.size_toArray, List.length_cons, List.length_nil, Nat.reduceAdd, Nat.reduceSub, Array.replicate_succ, Array.replicate_zero, List.push_toArray, List.append_toArray, List.nil_append, List.cons_append]
  gi_wp2_with (first
    | (gi_at_call 47; refine (cK _ _).mono ?_; rintro e w' ⟨rfl, rfl⟩)
    | (gi_at_call 46; refine cS.mono ?_; rintro e w' ⟨v, ss, rfl, hp, hrow, hnil, hb⟩))
  go_ret
  have hl : (ss.mergeSort fun x y => decide (x ≤ y)).length = ss.length := List.length_mergeSort ss
  refine ⟨v, ss.mergeSort fun x y => decide (x ≤ y), rfl, pend_of HO.out HS.out hp, ?_, ?_, ((Below.refl _ w).alloc (Nat.le_refl _) _).trans (hb.mono (by simp))⟩
  · rw [hl]
    exact ownsRow_base_a hrow (by simp)
  · rw [hnil]
    constructor
    · rintro rfl; simp
    · intro h; exact List.length_eq_zero_iff.1 (by rw [← hl, h]; rfl)
end Go.Proofs.Ythcliaaoadfegaa.Dk
