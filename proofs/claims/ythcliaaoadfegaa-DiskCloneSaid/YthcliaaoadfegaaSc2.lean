/- The sectors copied (slices.Clone). -/
import Derived.Test.YthcliaaoadfegaaDw
import Derived.Test.YthcliaaoadfegaaUe
import Derived.Lib.SliceRun
namespace Go.Proofs.Ythcliaaoadfegaa.Dk
open Go Go.RowKit
set_option linter.unusedVariables false
set_option linter.unusedSimpArgs false
theorem Try.infoSec0 : (Try.prog.info? 75).map (fun i => (i.zero, i.size, i.bytes)) = some (some (.agg (bvs zeros).toArray), 128, 128) := by kernel_rfl
theorem secs_eq_nil (ad : Addr) (n c : Nat) (w : World) : (binOp .eql 50 (.slice (some ad) n c) (.slice none 0 0)).run Try.prog w = .ok (.bool false) w := by
  exact Go.Lib.run_eql_slice_nil (P := Try.prog) w 50 75 (some ad) n c 0 0 Try.underlying50
/-- What the copy is. -/
theorem grew_secs {w w' : World} {ad : Addr} {v' : Value} {s : List (List UInt8)} (hlen : ∀ b ∈ s, b.length = 128) (h0 : 0 < s.length) (h : GrewFull w w' w.heap.size 75 128 (.slice (some ad) 0 0) v' 0 s.length ([] ++ flat s)) :
    ∃ g' c' T', v' = .slice (some ⟨g', 0, none⟩) s.length c' ∧ w'.heap[g']? = some (.cells (flat s ++ T').toArray 75 (0, 0)) ∧ w.heap.size ≤ g' ∧ Below w.heap.size w w' := by
  rcases h with ⟨e, _, _⟩ | ⟨_, hrow, hg, hob⟩
  · omega
  · rw [List.nil_append, Nat.zero_add] at hrow
    have hb : Below w.heap.size w w' := (Frm.refl (fun _ => False) w).grown hg (by intro j e; cases e) |>.below (fun _ _ h => h.elim) (Nat.le_refl _)
    rcases hrow.2 with ⟨_, e⟩ | ⟨g, cap, cur, rfl, hbb, hh, h1, h2, h3, h4⟩
    · omega
    · refine ⟨g, cap, cur.toList.drop (s.length * 128), rfl, ?_, hbb, hb⟩
      rw [hh]
      congr 2
      rw [← h4, List.take_append_drop]
set_option maxRecDepth 100000 in
set_option maxHeartbeats 800000 in
theorem cloneSecs_any {w : World} {g c : Nat} {s : List (List UInt8)} {T : List Value} (hr : w.heap[g]? = some (.cells (flat s ++ T).toArray 75 (0, 0))) (hlen : ∀ b ∈ s, b.length = 128) (h0 : 0 < s.length) (hf : s.length ≤ 4096) :
    Calls Try.prog 30 #[.slice (some ⟨g, 0, none⟩) s.length c] w fun e w' => ∃ g' c' T', e = .returned (.slice (some ⟨g', 0, none⟩) s.length c') ∧ w'.heap[g']? = some (.cells (flat s ++ T').toArray 75 (0, 0)) ∧ w.heap.size ≤ g' ∧ Below w.heap.size w w' := by
  have hE := fun W => secs_eq_nil ⟨g, 0, none⟩ s.length c W
  obtain ⟨i0, hi, hz0, hz1, hz2⟩ := info_parts Try.infoSec0
  have HI := Lib.hid hi
  have HZ0 := Lib.hid hz0
  have HZ1 := Lib.hid hz1
  have HZ2 := Lib.hid hz2
  have SR := Lib.hid (fun (W : World) (b : Below w.heap.size w W) => (Src.any W Try.underlying50 (some ⟨g, 0, none⟩) s.length c (flat s) (flat_length hlen) (fun e => by cases e) (fun a e j u hu => by
    cases e
    rw [Addr.add_mid, cell_of_row W g (0 + j) _ _ _ ((b.block g (lt_of_row hr)).trans hr), Nat.zero_add]
    rw [List.getElem?_toArray, List.getElem?_append_left (List.getElem?_eq_some_iff.1 hu).1]
    exact hu) (flat_one s) : Src Try.prog 128 50 (.slice (some ⟨g, 0, none⟩) s.length c) s.length (flat s) W))
  obtain ⟨w1, hw1⟩ : ∃ w1, w1 = w.alloc (.cells #[] 75) := ⟨_, rfl⟩
  obtain ⟨k1, hk1⟩ : ∃ k, k = w.heap.size := ⟨_, rfl⟩
  have b1 : Below w.heap.size w w1 := by rw [hw1]; exact (Below.refl _ _).alloc (Nat.le_refl _) _
  have HB1 := Lib.hid b1
  have HW1 := Lib.hid hw1
  have HK1 := Lib.hid hk1
  have HF := Lib.hid hf
  have H0 := Lib.hid h0
  clear hi hz0 hz1 hz2 hw1 hk1 b1 hf h0
  have HR := Lib.hid hr
  have HL := Lib.hid hlen
  clear hr hlen
  go_enter Try.func30, Try.ntmps30
  go_wp2_with (at_builtin; rw [← HW1.out, ← HK1.out]; refine wpList_append_full_src _ rfl (.tmp 5) (.tmp 6) 50 50 rfl w1.heap.size 75 i0 (.agg (bvs zeros).toArray) 128 128 Try.underlying50 HI.out HZ0.out HZ1.out HZ2.out (by kernel_rfl) ⟨k1, 0, none⟩ 0 [] rfl rfl (fun j u h => by cases h) _ s.length (flat s) rfl (SR.out w1 HB1.out) (by have := HF.out; unfold maxLen; omega) (by have := HF.out; omega) (Nat.le_refl _) ?_)
  intro v' w2 hgr
  obtain ⟨g', c', T', rfl, hr2, hg2, hb2⟩ := grew_secs HL.out H0.out hgr
  have R := Lib.hid hr2
  have B := Lib.hid (HB1.out.trans (hb2.mono HB1.out.size))
  have G := Lib.hid (Nat.le_trans HB1.out.size hg2)
  clear hgr hr2 hg2 hb2
  go_wp2_with fail
  go_ret
  exact ⟨g', c', T', rfl, R.out, G.out, B.out⟩
end Go.Proofs.Ythcliaaoadfegaa.Dk
