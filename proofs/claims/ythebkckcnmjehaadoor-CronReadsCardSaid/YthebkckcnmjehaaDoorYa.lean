/- The reference's split. -/
import Derived.Test.YthebkckcnmjehaaDoorYs
import Derived.Test.YthebkckcnmjehaaDoorYo
namespace Go.Proofs.YthebkckcnmjehaaDoor
open Go Go.RowKit
set_option linter.unusedVariables false
set_option linter.unusedSimpArgs false
def RowPost (w : World) (L : List (List UInt8)) (e : Ending) (w' : World) : Prop := ∃ ao cp, e = .returned (.slice ao L.length cp) ∧ Blk 9 w' ao (strVs L) ∧ Below w.heap.size w w'
theorem Tryd.infoStr : (Tryd.prog.info? 9).map (fun i => (i.zero, i.size, i.bytes)) = some (some (.string ⟨#[]⟩), 1, 16) := by kernel_rfl
def spRel (w : World) (l : List UInt8) (c : UInt8) (out fr i : Value) (wr : World) : Prop :=
  ∃ (k f : Nat) (P : List (List UInt8)), i = .int .i64 (k : Int) ∧ fr = .int .i64 (f : Int) ∧ SpSt c l k f P ∧ wr.ownsRow w.heap.size 9 1 out P.length (strVs P) ∧ Below w.heap.size w wr
set_option maxHeartbeats 4000000 in
theorem refSplit_any (c : UInt8) (l : List UInt8) (hl : l.length ≤ 1000000) (w : World) : Calls Tryd.prog 23 #[.string (str l), .int .u8 (c.toNat : Int)] w (RowPost w (splitL c l)) := by
  have hs := str_size l
  have hat := str_at l
  have HAT := Lib.hid hat
  have HX := Lib.hid (fun a b => str_extract l a b)
  obtain ⟨S, hS⟩ : ∃ S, S = str l := ⟨_, rfl⟩
  rw [← hS] at hs HAT HX ⊢
  obtain ⟨i0, hi0, hz0, hz1, hz2⟩ := info_parts Tryd.infoStr
  have HI := Lib.hid (And.intro hi0 (And.intro hz0 (And.intro hz1 hz2)))
  clear hat hS hi0 hz0 hz1 hz2
  go_enter Tryd.func23, Tryd.ntmps23
  go_wp2_with fail
  go_loopw [5, 6, 7] (fun out fr i wr => spRel w l c out fr i wr) (fun _ _ i _ => l.length - (intOf i).toNat)
  case atStart => exact ⟨0, 0, [], rfl, rfl, SpSt.zero c l, World.ownsRow_nil _ _ _ _, Below.refl _ _⟩
  case round =>
    obtain ⟨wo, rfl⟩ : ∃ wo : World, wo = wr := ⟨_, rfl⟩
    obtain ⟨k, f, P, rfl, rfl, hst, own, hb⟩ := hrel
    have q0 : (0 : Int) ≤ (k : Int) := by omega
    have hkl := hst.1
    have hfk := hst.2.1
    have hpk := hst.2.2.1
    have q2 : (0 : Int) ≤ (f : Int) := by omega
    have q3 : (f : Int) ≤ (k : Int) := by omega
    have ST := Lib.hid hst
    have OWN := Lib.hid own
    have HB := Lib.hid hb
    obtain ⟨ao, cap, rfl⟩ := own_slK own
    clear hst own hb
    by_cases hk : k < l.length
    · have q1 : (k : Int) < (S.size : Int) := by omega
      have hks : k < S.size := by omega
      have q4 : (k : Int) ≤ (S.size : Int) := by omega
      obtain ⟨b, hbb⟩ : ∃ b, b = l.getD k 0 := ⟨_, rfl⟩
      have hbk : ∀ h : k < S.size, S[k]'h = b := fun h => by rw [HAT.out k h]; exact hbb.symm
      have HBB := Lib.hid hbb
      clear hbb
      by_cases e : b = c
      · have e2 : (b.toNat : Int) = (c.toNat : Int) := by rw [e]
        have ST2 := Lib.hid (ST.out.cut hk (by rw [← HBB.out]; exact e))
        have EX := Lib.hid (show S.extract f k = str ((l.take k).drop f) by rw [HX.out])
        clear e
        go_wp2_with (at_builtin; refine wpList_append_own_src _ rfl (.tmp 19) (.tmp 24) 51 51 rfl w.heap.size 9 i0 (.string ⟨#[]⟩) 1 16 Tryd.underlying51 HI.out.1 HI.out.2.1 HI.out.2.2.1 HI.out.2.2.2 rfl _ P.length (strVs P) rfl (OWN.out.alloc _) _ 1 [.string (S.extract f k)] rfl (src_oneK Tryd.underlying51 wo _ rfl (fun u hu => by simp at hu; subst hu; rfl)) ?b1 ?b2 ?b3 ?next)
        case b1 => unfold maxLen; omega
        case b2 => omega
        case b3 => have := HB.out.size; simp; omega
        case next =>
          intro v2 w4 g4
          obtain ⟨a2, c2, rfl, own4, hb4, blk4⟩ := grew_oneK OWN.out HB.out.size (Nat.le_refl _) g4
          rw [EX.out] at own4
          have RL := Lib.hid (show spRel w l c (.slice a2 (P.length + 1) c2) (.int .i64 ((k + 1 : Nat) : Int)) (.int .i64 ((k + 1 : Nat) : Int)) w4 from ⟨k + 1, k + 1, P ++ [(l.take k).drop f], rfl, rfl, ST2.out, by simpa [strVs] using own4, HB.out.trans hb4⟩)
          clear own4 hb4 blk4 g4
          go_wp2_with fail
          exact ⟨RL.out, by simp [intOf]; omega⟩
      · have e2 : ¬ (b.toNat : Int) = (c.toNat : Int) := fun h => e (UInt8.toNat_inj.1 (by omega))
        have RL := Lib.hid (show spRel w l c (.slice ao P.length cap) (.int .i64 (f : Int)) (.int .i64 ((k + 1 : Nat) : Int)) wo from ⟨k + 1, f, P, rfl, rfl, ST.out.skip hk (by rw [← HBB.out]; exact e), OWN.out, HB.out⟩)
        clear e
        go_wp2_with fail
        exact ⟨RL.out, by simp [intOf]; omega⟩
    · have q1 : ¬ (k : Int) < (S.size : Int) := by omega
      obtain rfl : k = l.length := by omega
      have q4 : (f : Int) ≤ (S.size : Int) := by omega
      have EX := Lib.hid (show S.extract f S.size = str (l.drop f) by rw [HX.out, hs, List.take_length])
      have DN := Lib.hid ST.out.done
      clear hs
      go_wp2_with (at_builtin; refine wpList_append_own_src _ rfl (.tmp 28) (.tmp 32) 51 51 rfl w.heap.size 9 i0 (.string ⟨#[]⟩) 1 16 Tryd.underlying51 HI.out.1 HI.out.2.1 HI.out.2.2.1 HI.out.2.2.2 rfl _ P.length (strVs P) rfl (OWN.out.alloc _) _ 1 [.string (S.extract f S.size)] rfl (src_oneK Tryd.underlying51 wo _ rfl (fun u hu => by simp at hu; subst hu; rfl)) ?b4 ?b5 ?b6 ?next2)
      case b4 => unfold maxLen; omega
      case b5 => omega
      case b6 => have := HB.out.size; simp; omega
      case next2 =>
        intro v2 w4 g4
        obtain ⟨a2, c2, rfl, own4, hb4, blk4⟩ := grew_oneK OWN.out HB.out.size (Nat.le_refl _) g4
        rw [EX.out] at own4
        have RL := Lib.hid (show RowPost w (splitL c l) (.returned (.slice a2 (P.length + 1) c2)) w4 from by
          rw [DN.out]
          exact ⟨a2, c2, by simp, Blk.own (c := c2) (by simpa [strVs] using own4), HB.out.trans hb4⟩)
        clear own4 hb4 blk4 g4
        go_wp2_with fail
        go_ret
        exact RL.out
end Go.Proofs.YthebkckcnmjehaaDoor
