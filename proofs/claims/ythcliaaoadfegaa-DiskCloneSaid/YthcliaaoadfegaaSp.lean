/- Spoil: a durable byte is turned. -/
import Derived.Test.YthcliaaoadfegaaDc
import Derived.Test.YthcliaaoadfegaaQt
namespace Go.Proofs.Ythcliaaoadfegaa.Dk
open Go Go.RowKit
set_option linter.unusedVariables false
set_option linter.unusedSimpArgs false
variable {w : World} {d g m n : Nat} {x : DS}
theorem flat_set1 : ∀ {s : List (List UInt8)} (h : ∀ b ∈ s, b.length = 128) {i j : Nat} (b : UInt8), i < s.length → j < 128 → (flat s).set (i * 128 + j) (bv b) = flat (s.set i ((s.getD i []).set j b))
  | [], _, _, _, _, hi, _ => by simp at hi
  | c :: s, h, 0, j, b, hi, hj => by
    have h1 := h c (by simp)
    unfold flat
    simp only [List.map_cons, List.flatten_cons, Nat.zero_mul, Nat.zero_add, List.set_cons_zero, List.getD_cons_zero]
    rw [List.set_append_left _ _ (by rw [bvs_length, h1]; exact hj)]
    congr 1
    unfold bvs
    rw [List.map_set]
  | c :: s, h, i + 1, j, b, hi, hj => by
    have h1 := h c (by simp)
    have ih := flat_set1 (s := s) (fun e he => h e (by simp [he])) (i := i) (j := j) b (by simpa using hi) hj
    unfold flat at ih ⊢
    simp only [List.map_cons, List.flatten_cons, List.set_cons_succ, List.getD_cons_succ]
    rw [← ih, List.set_append_right _ _ (by rw [bvs_length, h1]; omega), bvs_length, h1]
    rw [show (i + 1) * 128 + j - 128 = i * 128 + j by omega]
theorem DiskAt.setByte {P : Program} (h : DiskAt P w d g m n x) {k q : Nat} (hk : k < x.s.length) (hq : q < 128) (b : UInt8) : DiskAt P (w.setCell ⟨g, k * 128 + q, none⟩ (.int .u8 (b.toNat : Int))) d g m n { x with s := x.s.set k ((x.s.getD k []).set q b) } := by
  refine ⟨?_, ?_, h.map.keep (Below.heap_setCell w ⟨g, k * 128 + q, none⟩ _ m h.mg), ?_, h.ne, by simpa using h.few, h.wfu, h.wwr, h.wfl⟩
  · rw [Below.heap_setCell w ⟨g, k * 128 + q, none⟩ _ d h.ne]
    simpa using h.blk
  · have := Go.Joins.block_setCell (i := k * 128 + q) h.row (.int .u8 (b.toNat : Int))
    rw [List.setIfInBounds_toArray, List.set_append_left _ _ (by rw [flat_length h.len]; omega)] at this
    rw [← flat_set1 h.len b hk hq]
    exact this
  · intro c hc
    rcases List.mem_or_eq_of_mem_set hc with hc | rfl
    · exact h.len c hc
    · rw [List.length_set]
      have := h.len _ (List.getElem_mem hk)
      simpa [List.getD, hk] using this
/-- What Spoil does. -/
def DS.spoil (x : DS) (k q : Nat) (v : UInt8) : DS := { x with s := x.s.set k ((x.s.getD k []).set q ((x.s.getD k []).getD q 0 ^^^ v)) }
theorem byte_xor (a b : UInt8) : bits .xor .u8 (a.toNat : Int) (b.toNat : Int) = (((a ^^^ b).toNat : Nat) : Int) := by
  rw [UInt8.toNat_xor]
  exact u8_xor_nat _ _ a.toNat_lt b.toNat_lt
set_option maxRecDepth 100000 in
set_option maxHeartbeats 800000 in
theorem spoil_ok (h : DiskAt Try.prog w d g m n x) {k q : Nat} (hk : k < x.s.length) (hq : q < 128) (v : UInt8) :
    Calls Try.prog 29 #[.pointer (some ⟨d, 0, none⟩), .int .i64 (k : Int), .int .i64 (q : Int), .int .u8 (v.toNat : Int)] w fun e w' => e = .returned (.int .i64 0) ∧ DiskAt Try.prog w' d g m n (x.spoil k q v) ∧ Frm (own3 d g m) w w' := by
  have hh := has_any h (k : Int)
  rw [show x.has (k : Int) = true by unfold DS.has; simp; omega] at hh
  have HH := Lib.hid hh
  have c2 := h.c2
  have hkI : (k : Int) < (x.s.length : Int) := by omega
  have hqI : (q : Int) < 128 := by omega
  obtain ⟨l, hl⟩ : ∃ l, l = x.s.getD k [] := ⟨_, rfl⟩
  have hls : x.s[k]? = some l := by rw [hl]; simp [List.getD, hk]
  have hl128 : l.length = 128 := h.len l (List.mem_of_getElem? hls)
  obtain ⟨b, hb⟩ : ∃ b, b = l.getD q 0 := ⟨_, rfl⟩
  have cq : w.cell? ⟨g, k * 128 + q, none⟩ = some (.int .u8 (b.toNat : Int)) := h.sector hls q _ (by rw [hb]; simp [bvs, bv, List.getD, show q < l.length by omega])
  have fq : w.frozen? ⟨g, k * 128 + q, none⟩ = false := frozen_of_row w g (k * 128 + q) _ _ h.row
  have S := Lib.hid (show ∀ j, DiskAt Try.prog ((w.drewN j).setCell ⟨g, k * 128 + q, none⟩ (.int .u8 ((b ^^^ v).toNat : Int))) d g m n (x.spoil k q v) from fun j => by
    have := (h.drewN j).setByte hk hq (b ^^^ v)
    unfold DS.spoil
    rw [← hl, ← hb]
    rw [← hl] at this
    exact this)
  have F := Lib.hid (show ∀ j, Frm (own3 d g m) w ((w.drewN j).setCell ⟨g, k * 128 + q, none⟩ (.int .u8 ((b ^^^ v).toNat : Int))) from fun j => ((Frm.refl (own3 d g m) w).drewN j).setCell (p := ⟨g, k * 128 + q, none⟩) (.inl (.inr (.inl rfl))) _)
  have X := Lib.hid (byte_xor b v)
  clear h hh hl hls hl128 hb
  go_enter Try.func29, Try.ntmps29
  go_wp2_with (go_at_call 35; refine HH.out.mono ?_; rintro e w' ⟨rfl, rfl⟩)
  (refine wp_region_quiet_tail 13 (by kernel_rfl) (by kernel_rfl) ?_; simp only [List.take_succ_cons, List.take_zero, List.drop_succ_cons, List.drop_zero]; (repeat (go_big_quiet_step (fail))); refine wpQuiet_nil ?_; intro _ hw'; obtain ⟨nq, hw''⟩ := hw'; subst hw'')
  rw [X.out]
  go_wp2_with fail
  go_ret
  exact ⟨rfl, S.out _, F.out _⟩
end Go.Proofs.Ythcliaaoadfegaa.Dk
