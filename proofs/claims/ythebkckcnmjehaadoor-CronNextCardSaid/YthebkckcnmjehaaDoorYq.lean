/- The quiet walk: several operations passed over at once. Of no program. -/
import Derived.Test.YthebkckcnmjehaaDoorCq
namespace Go.Proofs.YthebkckcnmjehaaDoor
open Go Go.RowKit
set_option linter.unusedVariables false
set_option linter.unusedSimpArgs false
section
variable {P : Program} {ops : Array Oper} {C : World → Prop} {Q : Act → Prop}
def skipOk (ops : Array Oper) : Nat → List Oper → Act → Bool
  | 0, _, _ => true
  | n + 1, o :: l, a => (!Region.wanted o (yielded ops a.tmps)) && skipOk ops n l (a.put o.dst undef)
  | _ + 1, [], _ => false
def skipAct : Nat → List Oper → Act → Act
  | 0, _, a => a
  | n + 1, o :: l, a => skipAct n l (a.put o.dst undef)
  | _ + 1, [], a => a
theorem wpQuiet_skipN : ∀ (n : Nat) (l : List Oper) (a : Act) (h : skipOk ops n l a = true) (hn : wpQuiet P ops C Q (l.drop n) (skipAct n l a)), wpQuiet P ops C Q l a
  | 0, l, a, h, hn => hn
  | n + 1, [], a, h, hn => by simp [skipOk] at h
  | n + 1, o :: l, a, h, hn => by
    rw [skipOk, Bool.and_eq_true] at h
    exact wpQuiet_skipG h.1 (wpQuiet_skipN n l (a.put o.dst undef) h.2 hn)
end
end Go.Proofs.YthebkckcnmjehaaDoor
