/- The queue's keys: what the laws of maps want of them. -/
import Derived.Test.YtjjmjbemflhlbaaN2
import Derived.Test.YtjjmjbemflhlbaaRows
import Derived.WideKeyEntry
import Derived.DeepKeys5
namespace Go.Proofs.Ytjjmjbemflhlbaa.Qu
open Go Go.RowKit Go.Proofs.Ytjjmjbemflhlbaa
open Go.Proofs.Ytjjmjbemflhlbaa.Hp (K3 kv KLit wf3 i64wf kv_inj)
set_option linter.unusedVariables false
set_option linter.unusedSimpArgs false
theorem qu_laid : laidOutB Try.prog = true := by kernel_rfl
theorem qu_law : WideMaps.KeyLaw Try.prog 32 :=
  deep_law_gate qu_laid (of_decide_eq_true (by kernel_rfl)) (of_decide_eq_true (by kernel_rfl)) (by kernel_rfl) (by kernel_rfl)
theorem qu_key (x : K3) (hx : wf3 x) : keyOf Try.prog 32 (kv x) = some (KLit x) := by
  obtain ⟨a, b, c⟩ := x
  obtain ⟨h1, h2, h3⟩ := hx
  have hk : Try.prog.keyType 32 = true := by kernel_rfl
  have hpos : 0 < Try.prog.types.size := of_decide_eq_true (by kernel_rfl)
  obtain ⟨d, hd⟩ : ∃ d, Try.prog.types.size = d + 1 := ⟨Try.prog.types.size - 1, by omega⟩
  have hf : (kv (a, b, c)).formed Try.prog 32 = true := by kernel_rfl
  have hl : Try.prog.keyLits (Try.prog.types.size + 1) 32 [.int .i64 a, .int .i64 b, .int .i64 c] = some [.int .i64 a, .int .i64 b, .int .i64 c] := by
    have h1 : (Lit.int .i64 a).wf = true := h1
    have h2 : (Lit.int .i64 b).wf = true := h2
    have h3 : (Lit.int .i64 c).wf = true := h3
    have e0 : Try.prog.cellsOf 32 = 3 := by kernel_rfl
    have e1 : Try.prog.cellsOf 3 = 1 := by kernel_rfl
    have e2 : Try.prog.cellsOf 2 = 1 := by kernel_rfl
    have kI : ∀ n : Int, (Lit.int .i64 n).wf = true → Try.prog.keyLits (d + 1) 3 [.int .i64 n] = some [.int .i64 n] := by
      intro n hn
      unfold Program.keyLits
      simp only [Try.underlying3]
      simp [hn]
    have kJ : ∀ n : Int, (Lit.int .i64 n).wf = true → Try.prog.keyLits (d + 1) 2 [.int .i64 n] = some [.int .i64 n] := by
      intro n hn
      unfold Program.keyLits
      simp only [Try.underlying2]
      simp [hn]
    rw [hd]
    unfold Program.keyLits
    simp only [Try.underlying32]
    simp [e0, e1, e2, kI a h1, kI b h2, kJ c h3]
  unfold keyOf
  rw [Try.underlying32]
  dsimp only
  rw [hk, hf]
  show (if true = true then Option.map _ (Try.prog.keyLits (Try.prog.types.size + 1) 32 [.int .i64 a, .int .i64 b, .int .i64 c]) else none) = _
  rw [if_pos rfl, hl]
  rfl
theorem qu_keyP : KeyP Try.prog 27 32 24 where
  keyed := Maps.Keyed.of_law qu_law
  map := Try.underlying27
  zero := fun w => by kernel_rfl
  key := qu_key
end Go.Proofs.Ytjjmjbemflhlbaa.Qu
