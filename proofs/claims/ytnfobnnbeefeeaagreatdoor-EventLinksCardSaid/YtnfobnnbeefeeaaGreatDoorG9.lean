/- The parser's number. -/
import Derived.Lib.ParseIntBCases
import Derived.Test.YtnfobnnbeefeeaaGreatDoorG8
import Derived.Test.YtnfobnnbeefeeaaGreatDoorG5
namespace Go.Proofs.YtnfobnnbeefeeaaGreatDoor.Wi
open Go Go.RowKit
set_option linter.unusedVariables false
set_option linter.unusedSimpArgs false
def isDg (c : UInt8) : Bool := decide (48 ≤ c.toNat ∧ c.toNat ≤ 57)
/-- Where the digits from k on end. -/
def dgE (l : List UInt8) (k : Nat) : Nat := k + ((l.drop k).takeWhile isDg).length
theorem dgE_at {l : List UInt8} {k : Nat} {c : UInt8} (h : l[k]? = some c) : dgE l k = if isDg c = true then dgE l (k + 1) else k := by
  have hk : k < l.length := (List.getElem?_eq_some_iff.1 h).1
  have e : l.drop k = c :: l.drop (k + 1) := by
    rw [List.drop_eq_getElem_cons hk]
    congr 1
    exact (List.getElem?_eq_some_iff.1 h).2
  unfold dgE
  rw [e, List.takeWhile_cons]
  by_cases hc : isDg c = true
  · rw [if_pos hc, if_pos hc, List.length_cons]; omega
  · rw [if_neg hc, if_neg hc]; rfl
theorem dgE_end {l : List UInt8} {k : Nat} (h : l.length ≤ k) : dgE l k = k := by
  unfold dgE
  rw [List.drop_eq_nil_of_le h]; rfl
theorem dgE_le {l : List UInt8} {k : Nat} (h : k ≤ l.length) : dgE l k ≤ l.length := by
  unfold dgE
  have h1 := (List.takeWhile_prefix (l := l.drop k) isDg).length_le
  rw [List.length_drop] at h1
  omega
theorem dgE_ge (l : List UInt8) (k : Nat) : k ≤ dgE l k := Nat.le_add_right _ _
def nuQ (ds : List UInt8) (e : Int) : Int × Int := match Lib.parseIntB 64 ds with
  | .ok v => (v, if Lib.itoa v = ds then e else fe e 8)
  | .syntax => (0, fe e 8)
  | .range => (Lib.intSat 64 ds, fe e 8)
/-- What number tells: the number, how far, the error. -/
def nuV (l : List UInt8) (k : Nat) (e : Int) : Int × Nat × Int :=
  let k2 := dgE l (tkN [45] l k)
  let Q := nuQ ((l.take k2).drop k) e
  (Q.1, k2, Q.2)
/-- What of the memory's base is needed. -/
def GB (B : Nat) (w : World) : Prop := Lib.TabBelow Tryz.prog B w "internal/strconv.uint64pow10" .u64 Lib.pow10Tab ∧ ∀ w', Below B w w' → (∃ tp p, w'.var? Tryz.prog "strconv.ErrSyntax" = some #[.iface tp p]) ∧ (∃ tp p, w'.var? Tryz.prog "strconv.ErrRange" = some #[.iface tp p])
theorem GB.on {B : Nat} {w w' : World} (h : GB B w) (hb : Below B w w') : GB B w' := ⟨h.1.on hb, fun w2 h2 => h.2 w2 (hb.trans h2)⟩
theorem below_growV (w : World) (n : Nat) (os : Array Obj) : Below w.heap.size w (Sort.grow (w.drewN n) os) :=
  ⟨rfl, rfl, rfl, by simp [Sort.grow], fun k hk => by simp [Sort.grow, Array.getElem?_append, hk]⟩
theorem nu_ge (l : List UInt8) (k0 : Nat) : k0 ≤ dgE l (tkN [45] l k0) := by
  have h1 := dgE_ge l (tkN [45] l k0)
  have h2 : k0 ≤ tkN [45] l k0 := by unfold tkN; split <;> omega
  omega
theorem below_bwV (w : World) (e : TypeId) (s : ByteArray) : Below w.heap.size w (Lib.bytesWorld w e s) := ⟨rfl, rfl, rfl, by rw [Lib.bytesWorld_size]; omega, fun j hj => Lib.bytesWorld_at_old w e s j hj⟩
theorem pib_fits {l : List UInt8} {v : Int} (h : Lib.parseIntB 64 l = .ok v) : -9223372036854775808 ≤ v ∧ v ≤ 9223372036854775807 := by
  cases l with
  | nil => simp [Lib.parseIntB] at h
  | cons c r =>
    rw [Lib.parseIntB] at h
    split at h
    · cases h
    · cases h
    · rename_i u _
      split at h
      · cases h
      · split at h
        · cases h
        · injection h with h
          subst h
          split <;> omega
end Go.Proofs.YtnfobnnbeefeeaaGreatDoor.Wi
/- The parser's theory, and its list. -/
namespace Go.Proofs.YtnfobnnbeefeeaaGreatDoor.Wi
open Go Go.RowKit
set_option linter.unusedVariables false
set_option linter.unusedSimpArgs false
def paLoop (l : List UInt8) (F : Nat → Int → VT × Nat × Int) : Nat → Nat → Int → List VT × Nat × Int
  | 0, k, e => ([], k, e)
  | g + 1, k, e => if e ≠ 0 then ([], k, e) else if tkV [93] l (F k e).2.1 = true then ([(F k e).1], (F k e).2.1 + 1, (F k e).2.2)
    else if tkV [32] l (F k e).2.1 = true then ((F k e).1 :: (paLoop l F g ((F k e).2.1 + 1) (F k e).2.2).1, (paLoop l F g ((F k e).2.1 + 1) (F k e).2.2).2)
    else ((F k e).1 :: (paLoop l F g (F k e).2.1 (fe (F k e).2.2 8)).1, (paLoop l F g (F k e).2.1 (fe (F k e).2.2 8)).2)
def paL (l : List UInt8) (F : Nat → Int → VT × Nat × Int) (d k : Nat) (e : Int) : List VT × Nat × Int :=
  if tkV [93] l k = true then ([], k + 1, if 8 ≤ d then fe e 30 else e) else paLoop l F (2 * l.length + 3) k (if 8 ≤ d then fe e 30 else e)
/-- What is read as a value in d lists, from k on, with the error e; f lists are left. -/
def paV (l : List UInt8) : Nat → Nat → Nat → Int → VT × Nat × Int
  | 0, d, k, e => (.mk 0 0 [] none 0 [], k, e)
  | f + 1, d, k, e =>
    if tkV [110, 105, 108] l k = true then (.mk 0 0 [] none 0 [], k + 3, e)
    else if tkV [91] l k = true then (.mk 3 0 [] none 0 (paL l (paV l f (d + 1)) d (k + 1) e).1, (paL l (paV l f (d + 1)) d (k + 1) e).2)
    else if tkV [34] l k = true then (.mk 2 0 (tqV l (k + 1) e).1 none 0 [], (tqV l (k + 1) e).2)
    else (.mk 1 (nuV l k e).1 [] none 0 [], (nuV l k e).2)
/-- It goes on, and not too far. -/
def Goes (l : List UInt8) (k : Nat) (e : Int) (k' : Nat) (e' : Int) : Prop := k ≤ k' ∧ k' ≤ l.length ∧ mes l k' e' ≤ mes l k e
theorem Goes.trans {l : List UInt8} {k k1 k2 : Nat} {e e1 e2 : Int} (h : Goes l k e k1 e1) (h2 : Goes l k1 e1 k2 e2) : Goes l k e k2 e2 := ⟨Nat.le_trans h.1 h2.1, h2.2.1, Nat.le_trans h2.2.2 h.2.2⟩
theorem Goes.refl {l : List UInt8} {k : Nat} {e : Int} (h : k ≤ l.length) : Goes l k e k e := ⟨Nat.le_refl _, h, Nat.le_refl _⟩
theorem Goes.fail {l : List UInt8} {k : Nat} {e : Int} (h : k ≤ l.length) (a : Int) (ha : a ≠ 0) : Goes l k e k (fe e a) := ⟨Nat.le_refl _, h, fe_mes l k e a ha⟩
theorem tk_len {p l : List UInt8} {k : Nat} (hk : k ≤ l.length) (h : tkV p l k = true) : k + p.length ≤ l.length := by
  have := tkN_le (p := p) hk
  unfold tkN at this
  rwa [if_pos h] at this
theorem Goes.take {p l : List UInt8} {k : Nat} {e : Int} (hk : k ≤ l.length) (h : tkV p l k = true) : Goes l k e (k + p.length) e := by
  have := tk_len hk h
  refine ⟨Nat.le_add_right _ _, this, ?_⟩
  unfold mes
  omega
theorem chV_goes {l : List UInt8} {k : Nat} {e : Int} (hk : k ≤ l.length) : Goes l k e (chV l k e).2.1 (chV l k e).2.2 := by
  refine ⟨chV_ge l k e, chV_le hk, ?_⟩
  have h1 := nxV_mesle (e := e) hk
  have k1 := nxV_le (e := e) hk
  have h2 := nxV_mesle (l := l) (e := (nxV l k e).2.2) k1
  have k2 := nxV_le (l := l) (e := (nxV l k e).2.2) k1
  have h3 := hxV_mesle (l := l) (e := (nxV l (nxV l k e).2.1 (nxV l k e).2.2).2.2) k2
  have k3 := hxV_le (l := l) (e := (nxV l (nxV l k e).2.1 (nxV l k e).2.2).2.2) k2
  have h4 := hxV_mesle (l := l) (e := (hxV l (nxV l (nxV l k e).2.1 (nxV l k e).2.2).2.1 (nxV l (nxV l k e).2.1 (nxV l k e).2.2).2.2).2.2) k3
  unfold chV
  dsimp only
  split
  · exact h1
  · split
    · omega
    · dsimp only; omega
theorem txL_goes (l : List UInt8) : ∀ (f k : Nat) (e : Int) (acc : List UInt8), k ≤ l.length → Goes l k e (txL l f k e acc).2.1 (txL l f k e acc).2.2 := by
  intro f
  induction f with
  | zero => intro k e acc hk; exact Goes.refl hk
  | succ f ih =>
    intro k e acc hk
    rw [txL]
    by_cases h1 : e ≠ 0
    · rw [if_pos h1]; exact Goes.refl hk
    rw [if_neg h1]
    by_cases h2 : tkV [34] l k = true
    · rw [if_pos h2]; exact Goes.take hk h2
    · rw [if_neg h2]
      exact (chV_goes hk).trans (ih _ _ _ (chV_le hk))
theorem tqV_goes {l : List UInt8} {k : Nat} {e : Int} (hk : k ≤ l.length) : Goes l k e (tqV l k e).2.1 (tqV l k e).2.2 := by
  have h := txL_goes l (2 * l.length + 3) k e [] hk
  unfold tqV
  dsimp only
  split
  · exact h
  · exact h.trans (Goes.fail h.2.1 8 (by decide))
theorem nuV_goes {l : List UInt8} {k : Nat} {e : Int} (hk : k ≤ l.length) : Goes l k e (nuV l k e).2.1 (nuV l k e).2.2 := by
  have h1 := nu_ge l k
  have h2 := dgE_le (tkN_le (p := [45]) hk)
  have h3 : Goes l k e (dgE l (tkN [45] l k)) e := ⟨h1, h2, by unfold mes; omega⟩
  unfold nuV
  dsimp only
  refine h3.trans ?_
  unfold nuQ
  split
  · split
    · exact Goes.refl h2
    · exact Goes.fail h2 8 (by decide)
  · exact Goes.fail h2 8 (by decide)
  · exact Goes.fail h2 8 (by decide)
theorem paLoop_goes {l : List UInt8} {F : Nat → Int → VT × Nat × Int} (hF : ∀ k e, k ≤ l.length → Goes l k e (F k e).2.1 (F k e).2.2) : ∀ (g k : Nat) (e : Int), k ≤ l.length → Goes l k e (paLoop l F g k e).2.1 (paLoop l F g k e).2.2 := by
  intro g
  induction g with
  | zero => intro k e hk; exact Goes.refl hk
  | succ g ih =>
    intro k e hk
    rw [paLoop]
    by_cases h1 : e ≠ 0
    · rw [if_pos h1]; exact Goes.refl hk
    rw [if_neg h1]
    have hf := hF k e hk
    by_cases h2 : tkV [93] l (F k e).2.1 = true
    · rw [if_pos h2]; exact hf.trans (Goes.take hf.2.1 h2)
    rw [if_neg h2]
    by_cases h3 : tkV [32] l (F k e).2.1 = true
    · rw [if_pos h3]
      exact hf.trans ((Goes.take hf.2.1 h3).trans (ih _ _ (tk_len hf.2.1 h3)))
    · rw [if_neg h3]
      exact hf.trans ((Goes.fail hf.2.1 8 (by decide)).trans (ih _ _ hf.2.1))
theorem paL_goes {l : List UInt8} {F : Nat → Int → VT × Nat × Int} (hF : ∀ k e, k ≤ l.length → Goes l k e (F k e).2.1 (F k e).2.2) (d : Nat) {k : Nat} {e : Int} (hk : k ≤ l.length) : Goes l k e (paL l F d k e).2.1 (paL l F d k e).2.2 := by
  have h1 : Goes l k e k (if 8 ≤ d then fe e 30 else e) := by
    split
    · exact Goes.fail hk 30 (by decide)
    · exact Goes.refl hk
  unfold paL
  by_cases h2 : tkV [93] l k = true
  · rw [if_pos h2]; exact h1.trans (Goes.take hk h2)
  · rw [if_neg h2]; exact h1.trans (paLoop_goes hF _ _ _ hk)
theorem paV_goes (l : List UInt8) : ∀ (f d k : Nat) (e : Int), k ≤ l.length → Goes l k e (paV l f d k e).2.1 (paV l f d k e).2.2 := by
  intro f
  induction f with
  | zero => intro d k e hk; exact Goes.refl hk
  | succ f ih =>
    intro d k e hk
    rw [paV]
    by_cases h1 : tkV [110, 105, 108] l k = true
    · rw [if_pos h1]; exact Goes.take hk h1
    rw [if_neg h1]
    by_cases h2 : tkV [91] l k = true
    · rw [if_pos h2]
      exact (Goes.take hk h2).trans (paL_goes (fun k e h => ih (d + 1) k e h) d (tk_len hk h2))
    rw [if_neg h2]
    by_cases h3 : tkV [34] l k = true
    · rw [if_pos h3]
      exact (Goes.take hk h3).trans (tqV_goes (tk_len hk h3))
    · rw [if_neg h3]; exact nuV_goes hk
end Go.Proofs.YtnfobnnbeefeeaaGreatDoor.Wi
/- The parser's list. -/
namespace Go.Proofs.YtnfobnnbeefeeaaGreatDoor.Wi
open Go Go.RowKit
set_option linter.unusedVariables false
set_option linter.unusedSimpArgs false
theorem mes_step {l : List UInt8} {k vk : Nat} {ve : Int} (h : Goes l k 0 vk ve) (hv : vk + 1 ≤ l.length) : mes l (vk + 1) ve < mes l k 0 := by
  have h3 := h.2.2
  have e : mes l (vk + 1) ve + 2 = mes l vk ve := by unfold mes; omega
  omega
theorem mes_bad {l : List UInt8} {k vk : Nat} {ve : Int} (h : Goes l k 0 vk ve) : mes l vk (fe ve 8) < mes l k 0 := by
  have h1 := h.1
  have h3 := h.2.2
  unfold mes at h3 ⊢
  unfold fe
  rw [if_pos rfl] at h3 ⊢
  by_cases hv : ve = 0
  · rw [if_pos hv] at h3 ⊢
    rw [if_neg (by decide)]
    omega
  · rw [if_neg hv] at h3 ⊢
    rw [if_neg hv]
    omega
end Go.Proofs.YtnfobnnbeefeeaaGreatDoor.Wi
