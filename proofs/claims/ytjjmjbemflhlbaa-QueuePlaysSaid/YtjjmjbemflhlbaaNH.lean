/- A queue in memory, told by its tasks alone. -/
import Derived.Test.YtjjmjbemflhlbaaNG
namespace Go.Proofs.Ytjjmjbemflhlbaa.Qu
open Go Go.RowKit Go.Proofs.Ytjjmjbemflhlbaa
open Go.Proofs.Ytjjmjbemflhlbaa.Hp (K3 kv KLit wf3 i64wf kv_inj)
open Go.Proofs.Ytjjmjbemflhlbaa.Dk (Frm below_drewN Frm.of_below Frm.setCell Frm.refl Frm.drewN Frm.drew Frm.transT Frm.turned Frm.trans Frm.mono Frm.setRow Frm.thenBelow Frm.below)
set_option linter.unusedVariables false
set_option linter.unusedSimpArgs false
set_option maxRecDepth 100000
/-- A task that waits, and since when. -/
abbrev Tk := K3 × Int
def keysT (W : List Tk) : List K3 := W.map Prod.fst
def R3 : Array Value := #[undef, undef, undef]
/-- The queue at b holds just these tasks; its blocks are some of T. -/
def QT (w : World) (T : Nat → Prop) (b : Nat) (W : List Tk) : Prop := ∃ mo L, QAt w b 0 R3 29 mo L ∧ L.map Lk.tk = W ∧ ∀ q, own b mo L q → T q
variable {w w' : World} {T : Nat → Prop} {b : Nat} {W : List Tk}
theorem keys_of {L : List Lk} (h : L.map Lk.tk = W) : L.map Lk.key = keysT W := by subst h; simp [keysT, Lk.tk, Function.comp_def]
theorem QT.mono {T' : Nat → Prop} (h : QT w T b W) (hT : ∀ q, T q → T' q) : QT w T' b W := by
  obtain ⟨mo, L, h1, h2, h3⟩ := h
  exact ⟨mo, L, h1, h2, fun q hq => hT q (h3 q hq)⟩
theorem QT.keep (h : QT w T b W) (hk : ∀ q, T q → q < w.heap.size → w'.heap[q]? = w.heap[q]?) : QT w' T b W := by
  obtain ⟨mo, L, h1, h2, h3⟩ := h
  exact ⟨mo, L, h1.keep fun q hq => hk q (h3 q hq) (h1.lt hq), h2, h3⟩
theorem QT.below (h : QT w T b W) (hb : Below w.heap.size w w') : QT w' T b W := h.keep fun q _ hq => hb.block q hq
theorem QT.nodup (h : QT w T b W) : (keysT W).Nodup := by
  obtain ⟨mo, L, h1, h2, _⟩ := h
  rw [← keys_of h2]
  exact h1.keys
theorem QT.few (h : QT w T b W) : W.length ≤ 128 := by
  obtain ⟨mo, L, h1, h2, _⟩ := h
  rw [← h2, List.length_map]
  exact h1.few
theorem QT.wf (h : QT w T b W) : ∀ x ∈ W, wf3 x.1 ∧ i64wf x.2 := by
  obtain ⟨mo, L, h1, rfl, _⟩ := h
  intro x hx
  obtain ⟨y, hy, rfl⟩ := List.mem_map.1 hx
  exact h1.wf y hy
theorem adOf_in {L : List Lk} {k : K3} : (adOf L k).isSome = (L.map Lk.key).contains k := by
  cases hA : adOf L k with
  | none =>
    have := adOf_none.1 hA
    symm
    simp only [Option.isSome_none, List.contains_eq_mem, decide_eq_false_iff_not, List.mem_map, not_exists, not_and]
    exact fun x hx => this x hx
  | some a =>
    obtain ⟨A, x, B, rfl, hk, _⟩ := adOf_some hA
    subst hk
    simp
/-- The zero queue. -/
theorem QT.new (w : World) : QT (w.alloc (.cells #[.pointer none, .pointer none, .map none] 29)) (fun q => q = w.heap.size) w.heap.size [] := by
  refine ⟨none, [], ⟨⟨⟨heap_alloc_new w _, by decide, by decide⟩, trivial, by simp⟩, ⟨rfl, fun _ => rfl⟩, (fun x hx => by cases hx), by simp, by simp⟩, rfl, ?_⟩
  rintro q (e | e | ⟨x, hx, _⟩)
  · exact e
  · cases e
  · cases hx
theorem qt_len (h : QT w T b W) : Calls Try.prog 20 #[.pointer (some ⟨b, 0, none⟩)] w fun e w' => e = .returned (.int .i64 (W.length : Int)) ∧ w' = w := by
  obtain ⟨mo, L, h1, rfl, h3⟩ := h
  rw [List.length_map]
  exact qlen_any h1
theorem qt_has (h : QT w T b W) (k : K3) (hk : wf3 k) : Calls Try.prog 22 #[.pointer (some ⟨b, 0, none⟩), .agg (kcs k).toArray] w fun e w' => e = .returned (.bool ((keysT W).contains k)) ∧ Below w.heap.size w w' := by
  obtain ⟨mo, L, h1, h2, h3⟩ := h
  have h := qhas_any h1 k hk
  rwa [adOf_in, keys_of h2, kv_eq] at h
theorem qt_since (h : QT w T b W) (k : K3) (hk : wf3 k) : Calls Try.prog 21 #[.pointer (some ⟨b, 0, none⟩), .agg (kcs k).toArray] w fun e w' =>
    (k ∉ keysT W ∧ e = .returned (.tuple #[.int .i64 0, .bool false]) ∨ ∃ s, (k, s) ∈ W ∧ e = .returned (.tuple #[.int .i64 s, .bool true])) ∧ Below w.heap.size w w' := by
  obtain ⟨mo, L, h1, h2, h3⟩ := h
  have h := qsince_any h1 k hk
  rw [kv_eq] at h
  refine h.mono ?_
  rintro e w' ⟨h | ⟨x, hx, rfl, he⟩, hb⟩
  · refine ⟨.inl ⟨?_, h.2⟩, hb⟩
    rw [← keys_of h2]
    intro hm
    obtain ⟨x, hx, e⟩ := List.mem_map.1 hm
    exact adOf_none.1 h.1 x hx e
  · exact ⟨.inr ⟨x.since, by rw [← h2]; exact List.mem_map.2 ⟨x, hx, rfl⟩, he⟩, hb⟩
theorem qt_first_nil (h : QT w T b []) : Calls Try.prog 23 #[.pointer (some ⟨b, 0, none⟩)] w fun e w' => e = .returned (.tuple #[.agg (kcs k0).toArray, .int .i64 0, .bool false]) ∧ Below w.heap.size w w' := by
  obtain ⟨mo, L, h1, h2, h3⟩ := h
  obtain rfl := List.map_eq_nil_iff.1 h2
  exact qfirst_nil h1.c
theorem qt_first {x : Tk} {W : List Tk} (h : QT w T b (x :: W)) : Calls Try.prog 23 #[.pointer (some ⟨b, 0, none⟩)] w fun e w' => e = .returned (.tuple #[.agg (kcs x.1).toArray, .int .i64 x.2, .bool true]) ∧ Below w.heap.size w w' := by
  obtain ⟨mo, L, h1, h2, h3⟩ := h
  obtain ⟨y, L', rfl, rfl, rfl⟩ := List.map_eq_cons_iff.1 h2
  exact qfirst_cons h1.c
/-- What an add answers, and what waits then. -/
def addR (W : List Tk) (k : K3) : Int := if (keysT W).contains k = true then 5 else if W.length = 128 then 3 else 0
def addW (W : List Tk) (k : K3) (now : Int) : List Tk := if addR W k = 0 then W ++ [(k, now)] else W
/-- How a call leaves a queue: its blocks are the old ones, or new ones. -/
def QPost (w : World) (T : Nat → Prop) (b : Nat) (W : List Tk) (w' : World) : Prop := Frm T w w' ∧ ∃ T', QT w' T' b W ∧ (∀ q, T' q → (T q ∨ w.heap.size ≤ q) ∧ q < w'.heap.size)
theorem QPost.of {mo : Option Nat} {L : List Lk} (hF : Frm T w w') (hQ : QAt w' b 0 R3 29 mo L) (hL : L.map Lk.tk = W) (ho : ∀ q, own b mo L q → T q ∨ w.heap.size ≤ q) : QPost w T b W w' :=
  ⟨hF, own b mo L, ⟨mo, L, hQ, hL, fun q h => h⟩, fun q hq => ⟨ho q hq, hQ.lt hq⟩⟩
theorem QPost.belowB {B : Nat} (h : QPost w (fun q => B ≤ q) b W w') (hB : B ≤ w.heap.size) : QT w' (fun q => B ≤ q) b W ∧ Below B w w' := by
  obtain ⟨hF, T', hQ, hT⟩ := h
  refine ⟨hQ.mono fun q hq => ?_, hF.below (fun q _ hq => hq) hB⟩
  rcases (hT q hq).1 with h | h
  · exact h
  · omega
theorem qt_add (h : QT w T b W) (k : K3) (hk : wf3 k) (now : Int) (hnow : i64wf now) : Calls Try.prog 14 #[.pointer (some ⟨b, 0, none⟩), .agg (kcs k).toArray, .int .i64 now] w fun e w' => e = .returned (.int .i64 (addR W k)) ∧ QPost w T b (addW W k now) w' := by
  obtain ⟨mo, L, h1, h2, h3⟩ := h
  have hlen : W.length = L.length := by rw [← h2, List.length_map]
  by_cases hin : (keysT W).contains k = true
  · have hR : addR W k = 5 := by unfold addR; rw [if_pos hin]
    have hW : addW W k now = W := by unfold addW; rw [hR]; rfl
    rw [hR, hW]
    refine (qadd_twice h1 k hk now ?_).mono ?_
    · intro hno
      rw [← keys_of h2, ← adOf_in, hno] at hin
      cases hin
    · rintro e w' ⟨he, hb⟩
      exact ⟨he, .of (Frm.of_below hb (Nat.le_refl _)) (h1.below hb) h2 (fun q hq => .inl (h3 q hq))⟩
  · have hno : adOf L k = none := by
      rw [← keys_of h2, ← adOf_in] at hin
      cases hA : adOf L k with
      | none => rfl
      | some a => rw [hA] at hin; exact absurd rfl hin
    by_cases hf : L.length = 128
    · have hR : addR W k = 3 := by unfold addR; rw [if_neg hin, hlen, if_pos hf]
      have hW : addW W k now = W := by unfold addW; rw [hR]; rfl
      rw [hR, hW]
      refine (qadd_full h1 k hk now hno hf).mono ?_
      rintro e w' ⟨he, hb⟩
      exact ⟨he, .of (Frm.of_below hb (Nat.le_refl _)) (h1.below hb) h2 (fun q hq => .inl (h3 q hq))⟩
    · have hR : addR W k = 0 := by unfold addR; rw [if_neg hin, hlen, if_neg hf]
      have hW : addW W k now = W ++ [(k, now)] := by unfold addW; rw [hR]; rfl
      rw [hR, hW]
      refine (qadd_ok h1 k hk now hnow hno (by have := h1.few; omega)).mono ?_
      rintro e w' ⟨p, mo', he, hp, hQ, hF, hm⟩
      refine ⟨he, .of (hF.mono fun q _ hq => h3 q hq) hQ (by rw [List.map_append, h2]; rfl) ?_⟩
      rintro q (e | e | ⟨x, hx, e⟩)
      · exact .inl (h3 q (.inl e))
      · rcases hm q e with h | h
        · exact .inl (h3 q (.inr (.inl h)))
        · exact .inr h
      · rcases List.mem_append.1 hx with hx | hx
        · exact .inl (h3 q (.inr (.inr ⟨x, hx, e⟩)))
        · rw [List.mem_singleton.1 hx] at e
          exact .inr (by rw [← e]; exact hp)
/-- A task less. -/
def remW (W : List Tk) (k : K3) : List Tk := W.filter fun x => !(decide (x.1 = k))
theorem remW_no {W : List Tk} {k : K3} (h : k ∉ keysT W) : remW W k = W := by
  unfold remW
  rw [List.filter_eq_self]
  intro x hx
  have : x.1 ≠ k := fun e => h (by rw [← e]; exact List.mem_map.2 ⟨x, hx, rfl⟩)
  simp [this]
theorem remW_mid {A B : List Tk} {x : Tk} (h : (keysT (A ++ x :: B)).Nodup) : remW (A ++ x :: B) x.1 = A ++ B := by
  simp only [keysT, List.map_append, List.map_cons, List.nodup_append, List.nodup_cons] at h
  have hA : remW A x.1 = A := remW_no fun hm => h.2.2 x.1 hm x.1 (by simp) rfl
  have hB : remW B x.1 = B := remW_no fun hm => h.2.1.1 hm
  unfold remW at hA hB ⊢
  rw [List.filter_append, List.filter_cons, hA, hB]
  simp
theorem qt_remove (h : QT w T b W) (k : K3) (hk : wf3 k) : Calls Try.prog 17 #[.pointer (some ⟨b, 0, none⟩), .agg (kcs k).toArray] w fun e w' => e = .returned (.bool ((keysT W).contains k)) ∧ QPost w T b (remW W k) w' := by
  have hnd := h.nodup
  obtain ⟨mo, L, h1, h2, h3⟩ := h
  rw [← keys_of h2, ← adOf_in]
  cases hA : adOf L k with
  | none =>
    have hno : k ∉ keysT W := by
      rw [← keys_of h2]
      intro hm
      obtain ⟨x, hx, e⟩ := List.mem_map.1 hm
      exact adOf_none.1 hA x hx e
    rw [remW_no hno]
    refine (qremove_no h1 k hk hA).mono ?_
    rintro e w' ⟨he, hb⟩
    exact ⟨he, .of (Frm.of_below hb (Nat.le_refl _)) (h1.below hb) h2 (fun q hq => .inl (h3 q hq))⟩
  | some a =>
    obtain ⟨A, x, B, rfl, rfl, _⟩ := adOf_some hA
    refine (qremove_yes h1).mono ?_
    rintro e w' ⟨he, hQ, hF⟩
    refine ⟨he, .of (hF.mono fun q _ hq => h3 q hq) hQ ?_ ?_⟩
    · subst h2
      have e : (A ++ x :: B).map Lk.tk = A.map Lk.tk ++ x.tk :: B.map Lk.tk := by simp
      rw [e] at hnd ⊢
      rw [show x.key = x.tk.1 from rfl, remW_mid hnd, List.map_append]
    · rintro q (e | e | ⟨y, hy, e⟩)
      · exact .inl (h3 q (.inl e))
      · exact .inl (h3 q (.inr (.inl e)))
      · exact .inl (h3 q (.inr (.inr ⟨y, by rcases List.mem_append.1 hy with hy | hy <;> simp [hy], e⟩)))
theorem qt_take_nil (h : QT w T b []) : Calls Try.prog 15 #[.pointer (some ⟨b, 0, none⟩)] w fun e w' => e = .returned (.tuple #[.agg (kcs k0).toArray, .bool false]) ∧ QPost w T b [] w' := by
  obtain ⟨mo, L, h1, h2, h3⟩ := h
  obtain rfl := List.map_eq_nil_iff.1 h2
  refine (qtake_nil h1).mono ?_
  rintro e w' ⟨he, hQ, hF⟩
  exact ⟨he, .of (hF.mono fun q _ hq => h3 q hq) hQ rfl (fun q hq => .inl (h3 q hq))⟩
theorem qt_take {x : Tk} {W : List Tk} (h : QT w T b (x :: W)) : Calls Try.prog 15 #[.pointer (some ⟨b, 0, none⟩)] w fun e w' => e = .returned (.tuple #[.agg (kcs x.1).toArray, .bool true]) ∧ QPost w T b W w' := by
  obtain ⟨mo, L, h1, h2, h3⟩ := h
  obtain ⟨y, L', rfl, rfl, rfl⟩ := List.map_eq_cons_iff.1 h2
  refine (qtake_cons h1).mono ?_
  rintro e w' ⟨he, hQ, hF⟩
  refine ⟨he, .of (hF.mono fun q _ hq => h3 q hq) hQ rfl ?_⟩
  rintro q (e | e | ⟨z, hz, e⟩)
  · exact .inl (h3 q (.inl e))
  · exact .inl (h3 q (.inr (.inl e)))
  · exact .inl (h3 q (.inr (.inr ⟨z, by simp [hz], e⟩)))
theorem qt_list (h : QT w T b W) : Calls Try.prog 19 #[.pointer (some ⟨b, 0, none⟩)] w fun e w' =>
    ∃ ao c, e = .returned (.slice ao W.length c) ∧ w'.ownsRow w.heap.size 32 3 (.slice ao W.length c) W.length (kss (keysT W)) ∧ Below w.heap.size w w' := by
  obtain ⟨mo, L, h1, h2, h3⟩ := h
  have hlen : W.length = L.length := by rw [← h2, List.length_map]
  rw [hlen, ← keys_of h2]
  exact qlist_any h1.c (by have := h1.few; omega)
/-- A run's tasks less; how many they were. -/
def othW (run : Int) (W : List Tk) : List Tk := W.filter fun x => !(x.1.1 == run)
def cntW (run : Int) (W : List Tk) : Nat := (W.filter fun x => x.1.1 == run).length
theorem qt_drop (h : QT w T b W) (run : Int) : Calls Try.prog 18 #[.pointer (some ⟨b, 0, none⟩), .int .i64 run] w fun e w' => e = .returned (.int .i64 (cntW run W : Int)) ∧ QPost w T b (othW run W) w' := by
  obtain ⟨mo, L, h1, rfl, h3⟩ := h
  have e1 : cntW run (L.map Lk.tk) = cnt run L := by
    unfold cntW cnt
    rw [List.filter_map, List.length_map]
    rfl
  have e2 : othW run (L.map Lk.tk) = (oth run L).map Lk.tk := by
    unfold othW oth
    rw [List.filter_map]
    rfl
  rw [e1, e2]
  refine (qdrop_any h1 run).mono ?_
  rintro e w' ⟨he, hQ, hF⟩
  refine ⟨he, .of (hF.mono fun q _ hq => h3 q hq) hQ rfl ?_⟩
  rintro q (e | e | ⟨z, hz, e⟩)
  · exact .inl (h3 q (.inl e))
  · exact .inl (h3 q (.inr (.inl e)))
  · exact .inl (h3 q (.inr (.inr ⟨z, (List.mem_filter.1 hz).1, e⟩)))
end Go.Proofs.Ytjjmjbemflhlbaa.Qu
