/- The frames of a log and their bytes: what is laid is read so. Of no program: the sum is any function of a place, a kind and bytes. -/
import Derived.Handy
import Derived.Maps.RangeWalk
import Derived.Maps.OwnSet
import Derived.Maps.Views
import Derived.Below
import Derived.Lib.Hide
import Derived.Laws.Rows
import Derived.Deep.MidRow
import Derived.WalkLawsBesides
import Derived.WalkSpells
import Derived.Outline
import Derived.Lib.SmallJoins
namespace Go.Proofs.Ytdjpeebekpjiiaa.Dk
open Go
set_option linter.unusedVariables false
set_option linter.unusedSimpArgs false
/-- A number in so many bytes, the lowest first. -/
def w8le (n : Nat) : Nat → List UInt8
  | 0 => []
  | i + 1 => w8le n i ++ [UInt8.ofNat (n / 256 ^ i)]
theorem w8le_length (n : Nat) : ∀ i, (w8le n i).length = i
  | 0 => rfl
  | i + 1 => by rw [w8le, List.length_append, w8le_length n i]; rfl
/-- The number that bytes are. -/
def w8num : List UInt8 → Nat
  | [] => 0
  | b :: l => b.toNat + 256 * w8num l
theorem w8num_app : ∀ (a : List UInt8) (b : UInt8), w8num (a ++ [b]) = w8num a + b.toNat * 256 ^ a.length
  | [], b => by simp [w8num]
  | c :: a, b => by
    rw [List.cons_append, w8num, w8num, w8num_app a b, List.length_cons, Nat.pow_succ, Nat.mul_add, ← Nat.add_assoc]
    congr 1
    rw [Nat.mul_comm 256, Nat.mul_assoc]
theorem w8num_le (n : Nat) : ∀ i, w8num (w8le n i) = n % 256 ^ i
  | 0 => by simp [w8le, w8num, Nat.mod_one]
  | i + 1 => by
    rw [w8le, w8num_app, w8num_le n i, w8le_length, UInt8.toNat_ofNat']
    have h1 : n % 256 ^ (i + 1) = n % 256 ^ i + 256 ^ i * (n / 256 ^ i % 256) := by rw [Nat.pow_succ, Nat.mod_mul]
    rw [h1, Nat.mul_comm]
/-- A frame. -/
structure Fm where
  kind : Nat
  data : List UInt8
def toSeg (p : Nat) : Nat := 2048 - p % 2048
def restW (p n : Nat) : Nat := if toSeg p < 9 + n then toSeg p else 0
section
variable (sm : Nat → Nat → List UInt8 → Nat)
def headW (p : Nat) (f : Fm) : List UInt8 := w8le f.data.length 4 ++ (w8le (sm p f.kind f.data) 4 ++ [UInt8.ofNat f.kind])
def frmW (p : Nat) (f : Fm) : List UInt8 := List.replicate (restW p f.data.length) 0 ++ (headW sm (p + restW p f.data.length) f ++ f.data)
/-- The bytes of frames, of which the first has that place. -/
def encW : Nat → List Fm → List UInt8
  | _, [] => []
  | p, f :: l => frmW sm p f ++ encW (p + (restW p f.data.length + 9 + f.data.length)) l
def endW : Nat → List Fm → Nat
  | p, [] => p
  | p, f :: l => endW (p + (restW p f.data.length + 9 + f.data.length)) l
/-- The frames that bytes tell: a frame, or why not. -/
def readF (p : Nat) (b : List UInt8) : Fm × Int :=
  if b.length < 9 then (⟨0, []⟩, 8)
  else if b.length - 9 < w8num (b.take 4) ∨ (b.getD 8 0).toNat < 1 ∨ 3 < (b.getD 8 0).toNat then (⟨0, []⟩, 8)
  else if w8num ((b.drop 4).take 4) ≠ sm p (b.getD 8 0).toNat ((b.drop 9).take (w8num (b.take 4))) then (⟨0, []⟩, 80)
  else (⟨(b.getD 8 0).toNat, (b.drop 9).take (w8num (b.take 4))⟩, 0)
def isRestW (p : Nat) (b : List UInt8) : Bool := decide (toSeg p < 9) || (decide (9 ≤ b.length) && (b.take 9).all (· == 0))
def readW : Nat → Nat → List UInt8 → List Fm × Int
  | 0, _, _ => ([], 0)
  | fuel + 1, p, b =>
    if b = [] then ([], 0)
    else if isRestW p b = true then readW fuel (p + min (toSeg p) b.length) (b.drop (min (toSeg p) b.length))
    else
      let x := readF sm p (b.take (min (toSeg p) b.length))
      if x.2 ≠ 0 then ([], x.2)
      else
        let y := readW fuel (p + (9 + x.1.data.length)) (b.drop (9 + x.1.data.length))
        if y.2 ≠ 0 then ([], y.2) else (x.1 :: y.1, 0)
def Fm.Ok (f : Fm) : Prop := 1 ≤ f.kind ∧ f.kind ≤ 3 ∧ f.data.length ≤ 2039
variable (hsm : ∀ p k d, sm p k d < 4294967296)
theorem headW_length (p : Nat) (f : Fm) : (headW sm p f).length = 9 := by
  unfold headW
  rw [List.length_append, List.length_append, w8le_length, w8le_length]
  rfl
theorem frmW_length (p : Nat) (f : Fm) : (frmW sm p f).length = restW p f.data.length + 9 + f.data.length := by
  unfold frmW
  rw [List.length_append, List.length_append, List.length_replicate, headW_length]
  omega
theorem endW_eq : ∀ (l : List Fm) (p : Nat), endW p l = p + (encW sm p l).length
  | [], p => rfl
  | f :: l, p => by
    rw [endW, encW, endW_eq l, List.length_append, frmW_length]
    omega
theorem encW_app : ∀ (l m : List Fm) (p : Nat), encW sm p (l ++ m) = encW sm p l ++ encW sm (endW p l) m
  | [], m, p => rfl
  | f :: l, m, p => by
    rw [List.cons_append, encW, encW, endW, encW_app l m, List.append_assoc]
theorem endW_app : ∀ (l m : List Fm) (p : Nat), endW p (l ++ m) = endW (endW p l) m
  | [], m, p => rfl
  | f :: l, m, p => by rw [List.cons_append, endW, endW, endW_app l m]
theorem toSeg_pos (p : Nat) : 0 < toSeg p ∧ toSeg p ≤ 2048 := by
  have := Nat.mod_lt p (show 0 < 2048 by decide)
  unfold toSeg
  omega
theorem toSeg_rest (p n : Nat) (hn : n ≤ 2039) : 9 + n ≤ toSeg (p + restW p n) ∧ restW (p + restW p n) n = 0 := by
  have hm := Nat.mod_lt p (show 0 < 2048 by decide)
  have h : 9 + n ≤ toSeg (p + restW p n) := by
    unfold restW
    split
    · have e : (p + toSeg p) % 2048 = 0 := by unfold toSeg; omega
      show 9 + n ≤ 2048 - (p + toSeg p) % 2048
      rw [e]
      omega
    · rw [Nat.add_zero]
      omega
  refine ⟨h, ?_⟩
  show (if toSeg (p + restW p n) < 9 + n then _ else 0) = 0
  rw [if_neg (by omega)]
theorem headW_get (p : Nat) (f : Fm) (hf : f.Ok) (r : List UInt8) : (headW sm p f ++ r).take 4 = w8le f.data.length 4 ∧ ((headW sm p f ++ r).drop 4).take 4 = w8le (sm p f.kind f.data) 4 ∧ (headW sm p f ++ r).getD 8 0 = UInt8.ofNat f.kind ∧ (headW sm p f ++ r).drop 9 = r := by
  have l1 := w8le_length f.data.length 4
  have l2 := w8le_length (sm p f.kind f.data) 4
  unfold headW
  generalize w8le f.data.length 4 = A at *
  generalize w8le (sm p f.kind f.data) 4 = B at *
  refine ⟨?_, ?_, ?_, ?_⟩
  · rw [List.append_assoc, List.take_left' l1]
  · rw [List.append_assoc, List.drop_left' l1, List.append_assoc, List.take_left' l2]
  · rw [List.getD_eq_getElem?_getD, List.append_assoc, List.getElem?_append_right (by omega), l1, List.append_assoc, List.getElem?_append_right (by omega), l2]
    rfl
  · have : A ++ (B ++ [UInt8.ofNat f.kind]) ++ r = (A ++ (B ++ [UInt8.ofNat f.kind])) ++ r := rfl
    rw [List.drop_left' (by rw [List.length_append, List.length_append, l1, l2]; rfl)]
theorem kind_u8 {f : Fm} (hf : f.Ok) : (UInt8.ofNat f.kind).toNat = f.kind := by
  have := hf.1
  have := hf.2.1
  rw [UInt8.toNat_ofNat']
  omega
include hsm in
/-- A frame that was laid is read so. -/
theorem readF_fwd (p : Nat) (f : Fm) (hf : f.Ok) (r : List UInt8) : readF sm p (headW sm p f ++ (f.data ++ r)) = (f, 0) := by
  obtain ⟨h1, h2, h3, h4⟩ := headW_get sm p f hf (f.data ++ r)
  have hl : (headW sm p f ++ (f.data ++ r)).length = 9 + (f.data.length + r.length) := by rw [List.length_append, headW_length, List.length_append]
  have hd := hf.2.2
  have n1 : w8num (w8le f.data.length 4) = f.data.length := by rw [w8num_le]; omega
  have n2 : w8num (w8le (sm p f.kind f.data) 4) = sm p f.kind f.data := by rw [w8num_le]; have := hsm p f.kind f.data; omega
  unfold readF
  rw [h1, h2, h3, h4, hl, n1, n2, kind_u8 hf, List.take_left' rfl, if_neg (by omega), if_neg (by have := hf.1; have := hf.2.1; omega), if_neg (by simp)]
theorem rest_no (p : Nat) (f : Fm) (hf : f.Ok) (hp : 9 ≤ toSeg p) (r : List UInt8) : isRestW p (headW sm p f ++ r) = false := by
  have hk : (UInt8.ofNat f.kind == 0) = false := by
    have h := kind_u8 hf
    have h1 := hf.1
    rw [beq_eq_false_iff_ne]
    intro e
    rw [e] at h
    have : (0 : UInt8).toNat = 0 := rfl
    omega
  have ht : (headW sm p f ++ r).take 9 = headW sm p f := List.take_left' (headW_length sm p f)
  unfold isRestW
  rw [ht]
  have : decide (toSeg p < 9) = false := decide_eq_false (by omega)
  rw [this]
  unfold headW
  simp [List.all_append, hk]
theorem rest_yes (p n : Nat) (r : List UInt8) (hr : 0 < restW p n) : isRestW p (List.replicate (restW p n) 0 ++ r) = true ∧ min (toSeg p) (List.replicate (restW p n) (0 : UInt8) ++ r).length = restW p n := by
  have he : restW p n = toSeg p := by
    unfold restW at hr ⊢
    split
    · rfl
    · rename_i h; rw [if_neg h] at hr; omega
  rw [he]
  refine ⟨?_, by rw [List.length_append, List.length_replicate]; omega⟩
  unfold isRestW
  by_cases h : toSeg p < 9
  · simp [h]
  · have h1 : decide (9 ≤ (List.replicate (toSeg p) (0 : UInt8) ++ r).length) = true := decide_eq_true (by rw [List.length_append, List.length_replicate]; omega)
    have h2 : (List.replicate (toSeg p) (0 : UInt8) ++ r).take 9 = List.replicate 9 0 := by
      rw [List.take_append_of_le_length (by rw [List.length_replicate]; omega), List.take_replicate]
      congr 1
      omega
    rw [h1, h2]
    simp
include hsm in
/-- What was laid is read so. -/
theorem readW_fwd : ∀ (l : List Fm) (fuel p : Nat), (∀ f ∈ l, f.Ok) → 2 * l.length < fuel → readW sm fuel p (encW sm p l) = (l, 0)
  | [], fuel, p, _, hf => by
    obtain ⟨g, rfl⟩ : ∃ g, fuel = g + 1 := ⟨fuel - 1, by omega⟩
    rw [readW, encW, if_pos rfl]
  | f :: l, fuel, p, hl, hf => by
    rw [List.length_cons] at hf
    have hfo := hl f (by simp)
    obtain ⟨t1, t2⟩ := toSeg_rest p f.data.length hfo.2.2
    have go : ∀ (g q : Nat), 2 * l.length < g → 9 + f.data.length ≤ toSeg q → readW sm (g + 1) q (headW sm q f ++ (f.data ++ encW sm (q + (9 + f.data.length)) l)) = (f :: l, 0) := by
      intro g q hg hq
      have hne : headW sm q f ++ (f.data ++ encW sm (q + (9 + f.data.length)) l) ≠ [] := by
        intro e
        have := congrArg List.length e
        rw [List.length_append, headW_length] at this
        simp at this
      have hlen : 9 + f.data.length ≤ (headW sm q f ++ (f.data ++ encW sm (q + (9 + f.data.length)) l)).length := by
        rw [List.length_append, headW_length, List.length_append]; omega
      obtain ⟨r, hr⟩ : ∃ r, (headW sm q f ++ (f.data ++ encW sm (q + (9 + f.data.length)) l)).take (min (toSeg q) (headW sm q f ++ (f.data ++ encW sm (q + (9 + f.data.length)) l)).length) = headW sm q f ++ (f.data ++ r) := by
        refine ⟨(encW sm (q + (9 + f.data.length)) l).take (min (toSeg q) (headW sm q f ++ (f.data ++ encW sm (q + (9 + f.data.length)) l)).length - 9 - f.data.length), ?_⟩
        generalize hm : min (toSeg q) (headW sm q f ++ (f.data ++ encW sm (q + (9 + f.data.length)) l)).length = m
        have hm9 : 9 + f.data.length ≤ m := by omega
        rw [List.take_append, headW_length, List.take_of_length_le (by rw [headW_length]; omega), List.take_append, List.take_of_length_le (by omega)]
      rw [readW, if_neg hne, rest_no sm q f hfo (by omega), if_neg (by simp), hr, readF_fwd sm hsm q f hfo r]
      dsimp only
      have hd : (headW sm q f ++ (f.data ++ encW sm (q + (9 + f.data.length)) l)).drop (9 + f.data.length) = encW sm (q + (9 + f.data.length)) l := by
        rw [← List.append_assoc, List.drop_left' (by rw [List.length_append, headW_length])]
      rw [if_neg (by simp), hd, readW_fwd l g _ (fun x hx => hl x (by simp [hx])) hg]
      rfl
    obtain ⟨g, rfl⟩ : ∃ g, fuel = g + 1 := ⟨fuel - 1, by omega⟩
    obtain ⟨h, rfl⟩ : ∃ h, g = h + 1 := ⟨g - 1, by omega⟩
    have e : encW sm p (f :: l) = List.replicate (restW p f.data.length) 0 ++ (headW sm (p + restW p f.data.length) f ++ (f.data ++ encW sm (p + restW p f.data.length + (9 + f.data.length)) l)) := by
      rw [encW, frmW, List.append_assoc, List.append_assoc]
      congr 3
      congr 1
      omega
    rw [e]
    by_cases h0 : restW p f.data.length = 0
    · rw [h0] at t1 ⊢
      rw [Nat.add_zero] at t1 ⊢
      exact go (h + 1) p (by omega) t1
    · obtain ⟨r1, r2⟩ := rest_yes p f.data.length (headW sm (p + restW p f.data.length) f ++ (f.data ++ encW sm (p + restW p f.data.length + (9 + f.data.length)) l)) (by omega)
      rw [readW, if_neg, r1, if_pos rfl, r2, List.drop_left' (List.length_replicate ..)]
      · exact go h _ (by omega) t1
      · intro e0
        have := congrArg List.length e0
        rw [List.length_append, List.length_replicate] at this
        simp at this
        omega
end
end Go.Proofs.Ytdjpeebekpjiiaa.Dk
/- A map of sectors in memory (a map from int to 128 bytes), as a function of the key; its laws for the walk. -/
namespace Go.Proofs.Ytdjpeebekpjiiaa.Dk
open Go Go.RowKit Go.ChangeMaps Go.MapKept
open Go.WideElems (Fit rd rg pl)
open Go.Maps (Keyed)
set_option linter.unusedVariables false
set_option linter.unusedSimpArgs false

/-- A byte as a cell; bytes as cells. -/
def bv (b : UInt8) : Value := .int .u8 (b.toNat : Int)
def bvs (l : List UInt8) : List Value := l.map bv
theorem bvs_length (l : List UInt8) : (bvs l).length = l.length := by simp [bvs]
theorem bvs_append (a b : List UInt8) : bvs (a ++ b) = bvs a ++ bvs b := by simp [bvs]
theorem bvs_one (l : List UInt8) : ∀ u ∈ bvs l, u.oneCell' = true := by
  intro u hu
  obtain ⟨_, _, rfl⟩ := List.mem_map.1 hu
  rfl
theorem bvs_get (l : List UInt8) (j : Nat) (h : j < l.length) : (bvs l)[j]? = some (bv l[j]) := by simp [bvs, h]

def byteOf : Value → Option UInt8
  | .int .u8 n => if 0 ≤ n ∧ n < 256 then some (UInt8.ofNat n.toNat) else none
  | _ => none
theorem byteOf_bv (b : UInt8) : byteOf (bv b) = some b := by
  have := b.toNat_lt
  simp [byteOf, bv]
  omega
theorem byteOf_inv {v : Value} {b : UInt8} (h : byteOf v = some b) : v = bv b := by
  unfold byteOf at h
  split at h
  · rename_i n
    split at h
    · rename_i hn
      cases h
      simp [bv]
      omega
    · cases h
  · cases h
theorem mapM_bvs : ∀ l : List UInt8, (bvs l).mapM byteOf = some l
  | [] => rfl
  | b :: l => by
    have ih := mapM_bvs l
    simp only [bvs, List.map_cons, List.mapM_cons, byteOf_bv] at ih ⊢
    rw [ih]
    rfl
theorem mapM_inv : ∀ {vs : List Value} {l : List UInt8}, vs.mapM byteOf = some l → vs = bvs l
  | [], l, h => by cases h; rfl
  | v :: vs, l, h => by
    simp only [List.mapM_cons] at h
    cases hb : byteOf v with
    | none => rw [hb] at h; cases h
    | some b =>
      cases hr : vs.mapM byteOf with
      | none => rw [hb, hr] at h; cases h
      | some r =>
        rw [hb, hr] at h
        cases h
        rw [byteOf_inv hb, mapM_inv hr]
        rfl

/-- How a sector reads. -/
def secElem (v : Value) : Option (DataW Unit × List MemPlace) := match v with
  | .agg a => match a.toList.mapM byteOf with
    | some l => if l.length = 128 then some (.lit (.string l), []) else none
    | none => none
  | _ => none
theorem secElem_mk {l : List UInt8} (h : l.length = 128) : secElem (.agg (bvs l).toArray) = some (.lit (.string l), []) := by simp [secElem, mapM_bvs, h]
theorem secElem_inv {v : Value} {y : DataW Unit × List MemPlace} (h : secElem v = some y) : ∃ l : List UInt8, l.length = 128 ∧ v = .agg (bvs l).toArray ∧ y = (.lit (.string l), []) := by
  unfold secElem at h
  split at h
  · rename_i a
    split at h
    · rename_i l hl
      split at h
      · rename_i h128
        cases h
        exact ⟨l, h128, by rw [← mapM_inv hl], rfl⟩
      · cases h
    · cases h
  · cases h

def zeros : List UInt8 := List.replicate 128 0
theorem zeros_length : zeros.length = 128 := by simp [zeros]
def zd : DataW Unit := .lit (.string zeros)
def litBytes (d : DataW Unit) : List UInt8 := match d with
  | .lit (.string l) => l
  | _ => []
def wfi (x : Int) : Prop := (Lit.int .i64 x).wf = true
def viewAt (D : DataW Unit) (x : Int) : Option (List UInt8) := if Maps.has D (.int .i64 x) = true then some (litBytes (D.atKey (.int .i64 x) zd)) else none
theorem viewAt_put {D : DataW Unit} (hD : Maps.IsMap D) (x : Int) (l : List UInt8) (y : Int) : viewAt (D.put (.int .i64 x) (.lit (.string l))) y = if y = x then some l else viewAt D y := by
  by_cases h : y = x
  · subst h
    rw [if_pos rfl]
    unfold viewAt
    rw [Maps.has_put_same (k := .int .i64 y) hD (by trivial), Maps.atKey_put_same (k := .int .i64 y) hD (by trivial)]
    simp [litBytes]
  · have hne : Lit.int .i64 y ≠ Lit.int .i64 x := by intro e; cases e; exact h rfl
    rw [if_neg h]
    unfold viewAt
    rw [Maps.has_put_other hne, Maps.atKey_put_other hne]

/-- Block m is a map of at most n sectors, S at each key. -/
def MapIs (P : Program) (k : TypeId) (w : World) (m n : Nat) (S : Int → Option (List UInt8)) : Prop := ∃ D : DataW Unit, w.ownsMap P k secElem m n D ∧ ∀ x, wfi x → S x = viewAt D x

variable {P : Program} {k t e : TypeId} {w : World} {m n : Nat} {S : Int → Option (List UInt8)}
theorem MapIs.made (w : World) : MapIs P k (w.alloc (.map #[] 0)) w.heap.size 0 (fun _ => none) := ⟨.map [], World.ownsMap_made w P k secElem, fun x _ => rfl⟩
theorem MapIs.keep {w' : World} (h : MapIs P k w m n S) (hb : w'.heap[m]? = w.heap[m]?) : MapIs P k w' m n S := by
  obtain ⟨D, ⟨es, c, h1, h2⟩, h3⟩ := h
  exact ⟨D, ⟨es, c, hb.trans h1, h2⟩, h3⟩
theorem MapIs.mono {n' : Nat} (h : MapIs P k w m n S) (hn : n ≤ n') : MapIs P k w m n' S := by
  obtain ⟨D, h1, h2⟩ := h
  exact ⟨D, h1.mono hn, h2⟩
theorem MapIs.lt (h : MapIs P k w m n S) : m < w.heap.size := by
  obtain ⟨D, h1, h2⟩ := h
  exact h1.lt
theorem MapIs.alloc (h : MapIs P k w m n S) (o : Obj) : MapIs P k (w.alloc o) m n S := h.keep (Below.heap_alloc w o m h.lt)
theorem MapIs.drew (h : MapIs P k w m n S) : MapIs P k w.drew m n S := h
theorem MapIs.ext {S' : Int → Option (List UInt8)} (h : MapIs P k w m n S) (e : ∀ x, wfi x → S' x = S x) : MapIs P k w m n S' := by
  obtain ⟨D, h1, h2⟩ := h
  exact ⟨D, h1, fun x hx => (e x hx).trans (h2 x hx)⟩
/-- It is a map, no row of cells. -/
theorem MapIs.ne (h : MapIs P k w m n S) {g : Nat} {cs : Array Value} {ty : TypeId} {fr : Nat × Nat} (hg : w.heap[g]? = some (.cells cs ty fr)) : m ≠ g := by
  obtain ⟨D, ⟨es, c, h1, h2⟩, h3⟩ := h
  rintro rfl
  rw [hg] at h1
  cases h1
theorem keyOf_i (hk : P.underlying k = some (.int .i64)) {x : Int} (hx : wfi x) : keyOf P k (.int .i64 x) = some (.int .i64 x) := Maps.keyOf_int_mk hk hx

variable {ops : Array Oper} {rest : List Oper} {o : Oper} {a : Act} {Q : Exit → Act → World → Prop}
/-- 'b, ok := m[x]'. -/
theorem wpList_look (w : World) (hg : o.guard = none) (mo xo : Operand) (t : TypeId) (hop : o.op = Op.lookup t mo xo true)
    (hk : P.underlying k = some (.int .i64)) (ht : P.underlying t = some (.map k e)) (hz : (zeroValue e).run P w = .ok (.agg (bvs zeros).toArray) w)
    (hm : a.eval mo = .map (some m)) (h : MapIs P k w m n S) {x : Int} (hx : a.eval xo = .int .i64 x) (hw : wfi x) (l : List UInt8) (b : Bool)
    (hl : ∀ l', l'.length = 128 → (S x = some l' ∨ S x = none ∧ l' = zeros) → l = l') (hb : b = (S x).isSome)
    (hK : wpList P ops Q rest (a.put o.dst (.tuple #[.agg (bvs l).toArray, .bool b])) w) :
    wpList P ops Q (o :: rest) a w := by
  obtain ⟨D, h1, h2⟩ := h
  have hS := h2 x hw
  refine wpList_lookup_own_ok w hg mo xo t hop k e (Maps.int_keyed hk) ht secElem hz zd [] (secElem_mk zeros_length) m n D hm h1 _ (.int .i64 x) hx (keyOf_i hk hw) ?_
  intro v ps hv
  obtain ⟨l', h128, rfl, hy⟩ := secElem_inv hv
  have hat : D.atKey (.int .i64 x) zd = .lit (.string l') := congrArg Prod.fst hy
  have hb' : Maps.has D (.int .i64 x) = b := by
    rw [hb, hS]
    unfold viewAt
    cases Maps.has D (.int .i64 x) <;> simp
  rw [hb', ← hl l' h128 ?_]
  · exact hK
  · cases hh : Maps.has D (.int .i64 x) with
    | true => left; rw [hS]; unfold viewAt; rw [if_pos hh, hat]; rfl
    | false =>
      right
      refine ⟨by rw [hS]; unfold viewAt; simp [hh], ?_⟩
      have := Maps.atKey_of_not_has hh zd
      rw [hat] at this
      unfold zd at this
      cases this
      rfl
theorem wpList_look_some (w : World) (hg : o.guard = none) (mo xo : Operand) (t : TypeId) (hop : o.op = Op.lookup t mo xo true)
    (hk : P.underlying k = some (.int .i64)) (ht : P.underlying t = some (.map k e)) (hz : (zeroValue e).run P w = .ok (.agg (bvs zeros).toArray) w)
    (hm : a.eval mo = .map (some m)) (h : MapIs P k w m n S) {x : Int} (hx : a.eval xo = .int .i64 x) (hw : wfi x) {l : List UInt8} (hl : S x = some l)
    (hK : wpList P ops Q rest (a.put o.dst (.tuple #[.agg (bvs l).toArray, .bool true])) w) :
    wpList P ops Q (o :: rest) a w :=
  wpList_look w hg mo xo t hop hk ht hz hm h hx hw l true (fun l' _ hl' => by
    rcases hl' with h1 | ⟨h1, _⟩
    · rw [hl] at h1; cases h1; rfl
    · rw [hl] at h1; cases h1) (by rw [hl]; rfl) hK
theorem wpList_look_none (w : World) (hg : o.guard = none) (mo xo : Operand) (t : TypeId) (hop : o.op = Op.lookup t mo xo true)
    (hk : P.underlying k = some (.int .i64)) (ht : P.underlying t = some (.map k e)) (hz : (zeroValue e).run P w = .ok (.agg (bvs zeros).toArray) w)
    (hm : a.eval mo = .map (some m)) (h : MapIs P k w m n S) {x : Int} (hx : a.eval xo = .int .i64 x) (hw : wfi x) (hl : S x = none)
    (hK : wpList P ops Q rest (a.put o.dst (.tuple #[.agg (bvs zeros).toArray, .bool false])) w) :
    wpList P ops Q (o :: rest) a w :=
  wpList_look w hg mo xo t hop hk ht hz hm h hx hw zeros false (fun l' _ hl' => by
    rcases hl' with h1 | ⟨_, h1⟩
    · rw [hl] at h1; cases h1
    · exact h1.symm) (by rw [hl]; rfl) hK
/-- What it holds is 128 bytes. -/
theorem MapIs.len (h : MapIs P k w m n S) (hk : P.underlying k = some (.int .i64)) (ht : P.underlying t = some (.map k e)) (hz : (zeroValue e).run P w = .ok (.agg (bvs zeros).toArray) w) {x : Int} (hw : wfi x) {l : List UInt8} (hl : S x = some l) : l.length = 128 := by
  obtain ⟨D, h1, h2⟩ := h
  have hS := h2 x hw
  obtain ⟨v, ps, _, hv⟩ := h1.look_ok (Maps.int_keyed hk) ht hz (secElem_mk zeros_length) (keyOf_i hk hw)
  obtain ⟨l', h128, _, hy⟩ := secElem_inv hv
  have hat : D.atKey (.int .i64 x) zd = .lit (.string l') := congrArg Prod.fst hy
  rw [hl] at hS
  unfold viewAt at hS
  rw [hat] at hS
  split at hS
  · cases hS; exact h128
  · cases hS
/-- What a call leaves that turns block m alone. -/
def Turned (w w' : World) (m : Nat) : Prop := w.mapTurned w' m
/-- 'm[x] = b'. -/
theorem wpList_put (w : World) (hg : o.guard = none) (mo xo vo : Operand) (t : TypeId) (hop : o.op = Op.mapUpdate t mo xo vo)
    (hk : P.underlying k = some (.int .i64)) (ht : P.underlying t = some (.map k e)) (hm : a.eval mo = .map (some m)) (h : MapIs P k w m n S) (hn : n < maxLen)
    {x : Int} (hx : a.eval xo = .int .i64 x) (hw : wfi x) {l : List UInt8} (hl : l.length = 128) (hv : a.eval vo = .agg (bvs l).toArray)
    (hK : ∀ w', MapIs P k w' m (n + 1) (fun y => if y = x then some l else S y) → w.mapTurned w' m → wpList P ops Q rest (a.put o.dst undef) w') :
    wpList P ops Q (o :: rest) a w := by
  obtain ⟨D, h1, h2⟩ := h
  refine wpList_mapUpdate_in w hg mo xo vo t hop k e (Maps.int_keyed hk) ht secElem m n D hm h1 hn _ _ (.int .i64 x) hx hv (keyOf_i hk hw) (.lit (.string l)) [] (secElem_mk hl) ?_
  intro w' h1' ht'
  refine hK w' ⟨_, h1', fun y hy => ?_⟩ ht'
  rw [viewAt_put h1.isMap, ← h2 y hy]
/-- 'clear(m)'. -/
theorem wpList_clear (w : World) (hg : o.guard = none) (mo : Operand) (t : TypeId) (hop : o.op = Op.call { callee := Callee.builtin Builtin.clear, args := #[mo], argTypes := #[t] })
    (ht : P.underlying t = some (.map k e)) (hm : a.eval mo = .map (some m)) (h : MapIs P k w m n S)
    (hK : ∀ w', MapIs P k w' m 0 (fun _ => none) → w.mapTurned w' m → wpList P ops Q rest (a.put o.dst (.tuple #[])) w') :
    wpList P ops Q (o :: rest) a w := by
  obtain ⟨D, ⟨es, c, hb, F, hs, hD⟩, h2⟩ := h
  refine wpList_plain hg fun K' hK' => ?_
  have hrun : (Builtin.clear_ #[t] o.type #[.map (some m)]).run P w = .ok (.tuple #[]) (setBlock w m (.map #[] c)) := by
    simp [Builtin.clear_, run_underlying ht, MapKept.run_getObj_map hb, MapKept.run_setObj_map _ hb, Result.andThen, setBlock]
  unfold Oper.wp
  simp [execOp, hop, resolve, invoke, builtin, hm, hrun, Result.andThen]
  refine hK' _ _ (hK _ ⟨.map [], ⟨#[], c, heap_setBlock_same hb _, ?_, by simp, rfl⟩, fun x _ => rfl⟩ ⟨es, c, #[], c, hb, rfl⟩)
  exact ⟨by simp, stamped_empty c, by simp⟩
/-- A range over a map under way: left: the keys that are still to come. -/
def MapRange (P : Program) (k : TypeId) (w : World) (m r n : Nat) (S : Int → Option (List UInt8)) (left : Int → Bool) (cnt : Nat) : Prop :=
  ∃ (D : DataW Unit) (L : Lit → Bool), w.ranges P k secElem m r n D L cnt ∧ (∀ x, wfi x → S x = viewAt D x) ∧ (∀ x, wfi x → left x = L (.int .i64 x))
theorem MapRange.is {r cnt : Nat} {left : Int → Bool} (h : MapRange P k w m r n S left cnt) : MapIs P k w m n S := by
  obtain ⟨D, L, h1, h2, _⟩ := h
  exact ⟨D, h1.owns, h2⟩
theorem MapRange.left_eq {r cnt : Nat} {left : Int → Bool} (h : MapRange P k w m r n S left cnt) : w.rangeLeft m r = cnt := by
  obtain ⟨D, L, h1, h2, _⟩ := h
  exact h1.left_eq
theorem MapRange.lt {r cnt : Nat} {left : Int → Bool} (h : MapRange P k w m r n S left cnt) : r < w.heap.size := by
  obtain ⟨D, L, h1, h2, _⟩ := h
  exact h1.lt
theorem MapRange.keep {w' : World} {r cnt : Nat} {left : Int → Bool} (h : MapRange P k w m r n S left cnt) (hm : w'.heap[m]? = w.heap[m]?) (hr : w'.heap[r]? = w.heap[r]?) : MapRange P k w' m r n S left cnt := by
  obtain ⟨D, L, ⟨es, c, si, se, c0, h1, h2, h3, h4, h5, h6⟩, h7⟩ := h
  exact ⟨D, L, ⟨es, c, si, se, c0, hm.trans h1, h2, h3, h4, hr.trans h5, h6⟩, h7⟩
theorem wpList_range (w : World) (hg : o.guard = none) (mo : Operand) (t : TypeId) (hop : o.op = Op.range t mo)
    (hk : P.underlying k = some (.int .i64)) (ht : P.underlying t = some (.map k e)) (hm : a.eval mo = .map (some m)) (h : MapIs P k w m n S)
    (hK : ∀ w' cnt, MapRange P k w' m w.heap.size n S (fun x => (S x).isSome) cnt → w.grownBy w' none → w'.heap.size = w.heap.size + 1 → wpList P ops Q rest (a.put o.dst (.pointer (some ⟨w.heap.size, 0, none⟩))) w') :
    wpList P ops Q (o :: rest) a w := by
  obtain ⟨D, h1, h2⟩ := h
  refine wpList_range_own w hg mo t hop k e (Maps.int_keyed hk) ht secElem m n D hm h1 ?_
  intro w' hr hg hs
  refine hK w' _ ⟨D, _, hr, h2, fun x hx => ?_⟩ hg hs
  show (S x).isSome = _
  rw [h2 x hx]
  unfold viewAt
  cases Maps.has D (.int .i64 x) <;> simp
theorem wpList_next (w : World) (hg : o.guard = none) (it : Operand) (hop : o.op = Op.next it false) (hk : P.underlying k = some (.int .i64))
    {r cnt : Nat} {left : Int → Bool} (hit : a.eval it = .pointer (some ⟨r, 0, none⟩)) (h : MapRange P k w m r n S left cnt)
    (hDone : cnt = 0 → (∀ x, wfi x → left x = false) → wpList P ops Q rest (a.put o.dst (.tuple #[.bool false])) w)
    (hMore : ∀ (x : Int) (l : List UInt8) (w' : World) (cnt' : Nat), wfi x → l.length = 128 → S x = some l → left x = true → MapRange P k w' m r n S (fun y => left y && !decide (y = x)) cnt' → cnt' < cnt →
      w.grownBy w' (some r) → w'.heap.size = w.heap.size → (Instr.entry (.pointer (some ⟨r, 0, none⟩))).run P w' = .ok (.tuple #[.int .i64 x, .agg (bvs l).toArray]) w' → wpList P ops Q rest (a.put o.dst (.tuple #[.bool true, .int .i64 x, .agg (bvs l).toArray])) w') :
    wpList P ops Q (o :: rest) a w := by
  obtain ⟨D, L, h1, h2, h3⟩ := h
  refine wpList_next_ranges w hg it hop k (Maps.int_keyed hk) secElem (Value.int .i64) (fun l : List UInt8 => .agg (bvs l).toArray)
    (fun key kl hkey => by obtain ⟨x, rfl, _⟩ := Maps.keyOf_int_inv hk hkey; exact ⟨x, rfl⟩) (fun v y hv => by obtain ⟨l, _, rfl, _⟩ := secElem_inv hv; exact ⟨l, rfl⟩)
    m r n D L cnt hit h1 (fun h0 hl => hDone h0 (fun x hx => (h3 x hx).trans (hl _))) ?_
  intro x l kl y w' cnt' hkey hlk hv hat hrg hlt hgr hsz hen
  obtain ⟨x', ex, rfl, hwx⟩ := Maps.keyOf_int_inv hk hkey
  cases ex
  obtain ⟨l', h128, el, hy⟩ := secElem_inv hv
  have el' : l = l' := by
    have := congrArg (fun v => match v with | Value.agg a => a.toList.mapM byteOf | _ => none) el
    simpa [mapM_bvs] using this
  subst el'
  have hhas := Maps.has_true_of_atKey hat
  refine hMore x l w' cnt' hwx h128 ?_ ((h3 x hwx).trans hlk) ⟨D, _, hrg, h2, fun z hz => ?_⟩ hlt hgr hsz hen
  · rw [h2 x hwx]
    unfold viewAt
    rw [if_pos hhas, hat, hy]
    rfl
  · show (left z && !decide (z = x)) = _
    rw [h3 z hz]
    simp [Lit.sameKey]
end Go.Proofs.Ytdjpeebekpjiiaa.Dk
/- What calls leave that turn some blocks alone. -/
namespace Go.Proofs.Ytdjpeebekpjiiaa.Dk
open Go Go.RowKit
set_option linter.unusedVariables false
set_option linter.unusedSimpArgs false

/-- From w to w' no block is turned but those of which T is true, and new ones. -/
structure Frm (T : Nat → Prop) (w w' : World) : Prop where
  os : w'.os = w.os
  tape : w'.tape = w.tape
  output : w'.output = w.output
  size : w.heap.size ≤ w'.heap.size
  block : ∀ k, k < w.heap.size → ¬ T k → w'.heap[k]? = w.heap[k]?
variable {T T' : Nat → Prop} {a w w' : World}
theorem Frm.refl (T : Nat → Prop) (w : World) : Frm T w w := ⟨rfl, rfl, rfl, Nat.le_refl _, fun _ _ _ => rfl⟩
theorem Frm.transT (h : Frm T a w) (k : Frm T' w w') (hT : ∀ i, i < a.heap.size → T' i → T i) : Frm T a w' :=
  ⟨k.os.trans h.os, k.tape.trans h.tape, k.output.trans h.output, Nat.le_trans h.size k.size, fun i hi hn => (k.block i (Nat.lt_of_lt_of_le hi h.size) (fun ht => hn (hT i hi ht))).trans (h.block i hi hn)⟩
theorem Frm.trans (h : Frm T a w) (k : Frm T w w') : Frm T a w' := h.transT k (fun _ _ h => h)
theorem Frm.mono (h : Frm T a w) (hT : ∀ i, i < a.heap.size → T i → T' i) : Frm T' a w := ⟨h.os, h.tape, h.output, h.size, fun i hi hn => h.block i hi (fun ht => hn (hT i hi ht))⟩
theorem Frm.drew (h : Frm T a w) : Frm T a w.drew := ⟨h.os, h.tape, h.output, h.size, h.block⟩
theorem Frm.drewN (h : Frm T a w) (n : Nat) : Frm T a (w.drewN n) := ⟨h.os, h.tape, h.output, h.size, h.block⟩
theorem Frm.alloc (h : Frm T a w) (o : Obj) : Frm T a (w.alloc o) :=
  ⟨h.os, h.tape, h.output, by simpa using Nat.le_succ_of_le h.size, fun k hk hn => (Below.heap_alloc w o k (Nat.lt_of_lt_of_le hk h.size)).trans (h.block k hk hn)⟩
theorem Frm.setCell (h : Frm T a w) {p : Addr} (hp : T p.block ∨ a.heap.size ≤ p.block) (v : Value) : Frm T a (w.setCell p v) :=
  ⟨h.os, h.tape, h.output, by simpa [World.setCell] using h.size, fun k hk hn => (Below.heap_setCell w _ v k (by rintro rfl; exact hp.elim hn (fun hp => by omega))).trans (h.block k hk hn)⟩
theorem Frm.setRow (h : Frm T a w) {g : Nat} (hp : T g ∨ a.heap.size ≤ g) (cs : Array Value) : Frm T a (w.setRow g cs) :=
  ⟨h.os, h.tape, h.output, by simpa using h.size, fun k hk hn => (setRow_other w g k cs (by rintro rfl; exact hp.elim hn (fun hp => by omega))).trans (h.block k hk hn)⟩
theorem Frm.setCells (h : Frm T a w) {g : Nat} (hp : T g ∨ a.heap.size ≤ g) : ∀ (vs : List Value) (off : Nat), Frm T a (w.setCells g off vs) := by
  intro vs
  induction vs generalizing w with
  | nil => exact fun _ => h
  | cons v vs ih => exact fun off => ih (h.setCell (p := ⟨g, off, none⟩) hp v) (off + 1)
theorem Frm.grown (h : Frm T a w) {row : Option Nat} (hg : w.grownBy w' row) (hr : ∀ j, row = some j → T j ∨ a.heap.size ≤ j) : Frm T a w' :=
  ⟨hg.os.trans h.os, hg.tape.trans h.tape, hg.output.trans h.output, Nat.le_trans h.size hg.size, fun k hk hn => (hg.block k (Nat.lt_of_lt_of_le hk h.size) (fun e => by exact (hr k e.symm).elim hn (fun hr => by omega))).trans (h.block k hk hn)⟩
theorem Frm.turned (h : Frm T a w) {m : Nat} (ht : w.mapTurned w' m) (hm : T m ∨ a.heap.size ≤ m) : Frm T a w' := h.grown ht.grown (fun j e => by cases e; exact hm)
/-- Blocks from B on alone are turned. -/
theorem Frm.below {B : Nat} (h : Frm T a w) (hT : ∀ i, i < a.heap.size → T i → B ≤ i) (hB : B ≤ a.heap.size) : Below B a w := ⟨h.os, h.tape, h.output, h.size, fun k hk => h.block k (by omega) (fun ht => by have := hT k (by omega) ht; omega)⟩
theorem Frm.of_below {B : Nat} (h : Below B a w) (hB : a.heap.size ≤ B) : Frm T a w := ⟨h.os, h.tape, h.output, h.size, fun k hk _ => h.block k (by omega)⟩
theorem Frm.thenBelow {B : Nat} (h : Frm T a w) (k : Below B w w') (hB : w.heap.size ≤ B) : Frm T a w' := h.trans (Frm.of_below k hB)
theorem Frm.row {g : Nat} {x : Option Obj} (h : Frm T a w) (hg : a.heap[g]? = x) (hx : g < a.heap.size) (hn : ¬ T g) : w.heap[g]? = x := (h.block g hx hn).trans hg
theorem below_drewN {B : Nat} {a w : World} (h : Below B a w) (n : Nat) : Below B a (w.drewN n) := ⟨h.os, h.tape, h.output, h.size, h.block⟩
theorem lt_of_row {w : World} {g : Nat} {x : Obj} (h : w.heap[g]? = some x) : g < w.heap.size := (Array.getElem?_eq_some_iff.1 h).1
end Go.Proofs.Ytdjpeebekpjiiaa.Dk
/- A disk in memory: what it holds, and how its parts are turned. -/
namespace Go.Proofs.Ytdjpeebekpjiiaa.Dk
open Go Go.RowKit
set_option linter.unusedVariables false
set_option linter.unusedSimpArgs false

/-- The sectors' bytes as cells. -/
def flat (s : List (List UInt8)) : List Value := (s.map bvs).flatten
theorem flat_length : ∀ {s : List (List UInt8)}, (∀ b ∈ s, b.length = 128) → (flat s).length = s.length * 128
  | [], _ => rfl
  | b :: s, h => by
    have h1 := h b (by simp)
    have ih := flat_length (s := s) (fun c hc => h c (by simp [hc]))
    unfold flat at ih ⊢
    simp only [List.map_cons, List.flatten_cons, List.length_append, List.length_cons, bvs_length, ih, h1]
    omega
theorem flat_one (s : List (List UInt8)) : ∀ u ∈ flat s, u.oneCell' = true := by
  intro u hu
  obtain ⟨c, hc, hu⟩ := List.mem_flatten.1 hu
  obtain ⟨b, _, rfl⟩ := List.mem_map.1 hc
  exact bvs_one b u hu
/-- A sector's cells within all of them. -/
theorem flat_at : ∀ {s : List (List UInt8)} (h : ∀ b ∈ s, b.length = 128) {i : Nat} {l : List UInt8}, s[i]? = some l → ∀ j v, (bvs l)[j]? = some v → (flat s)[i * 128 + j]? = some v
  | [], _, _, _, hi, _, _, _ => by simp at hi
  | b :: s, h, 0, l, hi, j, v, hj => by
    simp at hi
    subst hi
    have : j < (bvs b).length := by
      have := List.getElem?_eq_some_iff.1 hj
      exact this.1
    unfold flat
    simp only [List.map_cons, List.flatten_cons, Nat.zero_mul, Nat.zero_add]
    rw [List.getElem?_append_left this]
    exact hj
  | b :: s, h, i + 1, l, hi, j, v, hj => by
    have h1 := h b (by simp)
    have ih := flat_at (s := s) (fun c hc => h c (by simp [hc])) (i := i) (l := l) (by simpa using hi) j v hj
    unfold flat at ih ⊢
    simp only [List.map_cons, List.flatten_cons]
    rw [List.getElem?_append_right (by rw [bvs_length, h1]; omega), bvs_length, h1]
    rw [show (i + 1) * 128 + j - 128 = i * 128 + j by omega]
    exact ih
/-- Cells laid over others from a place on. -/
def over (L : List Value) (o : Nat) (cs : List Value) : List Value := L.take o ++ (cs ++ L.drop (o + cs.length))
theorem over_nil (L : List Value) (o : Nat) : over L o [] = L := by simp [over]
theorem over_cons (L : List Value) (o : Nat) (c : Value) (cs : List Value) (h : o < L.length) : over (L.set o c) (o + 1) cs = over L o (c :: cs) := by
  unfold over
  rw [List.drop_set_of_lt (by omega), List.take_set, List.length_cons, show o + 1 + cs.length = o + (cs.length + 1) by omega]
  rw [show L.take (o + 1) = L.take o ++ [L[o]] from (List.take_append_getElem h).symm, List.set_append]
  have e : (L.take o).length = o := by simp; omega
  rw [if_neg (by omega), e, Nat.sub_self]
  simp
theorem heap_setCells {w : World} {g : Nat} {t : TypeId} : ∀ (cs : List Value) (L : List Value) (o : Nat) (w : World), w.heap[g]? = some (.cells L.toArray t (0, 0)) → o + cs.length ≤ L.length → (w.setCells g o cs).heap[g]? = some (.cells (over L o cs).toArray t (0, 0))
  | [], L, o, w, h, _ => by rw [over_nil]; exact h
  | c :: cs, L, o, w, h, hl => by
    simp at hl
    have h1 := Go.Joins.block_setCell (i := o) h c
    rw [List.setIfInBounds_toArray] at h1
    have := heap_setCells (w := w) cs (L.set o c) (o + 1) (w.setCell ⟨g, o, none⟩ c) h1 (by simp; omega)
    rw [over_cons L o c cs (by omega)] at this
    exact this
theorem setCells_other {g k : Nat} (hk : k ≠ g) : ∀ (cs : List Value) (o : Nat) (w : World), (w.setCells g o cs).heap[k]? = w.heap[k]?
  | [], o, w => rfl
  | c :: cs, o, w => (setCells_other hk cs (o + 1) (w.setCell ⟨g, o, none⟩ c)).trans (Below.heap_setCell w ⟨g, o, none⟩ c k hk)
theorem flat_set : ∀ {s : List (List UInt8)} (h : ∀ b ∈ s, b.length = 128) {i : Nat} {l : List UInt8}, i < s.length → l.length = 128 → over (flat s) (i * 128) (bvs l) = flat (s.set i l)
  | [], _, _, _, hi, _ => by simp at hi
  | b :: s, h, 0, l, hi, hl => by
    have h1 := h b (by simp)
    unfold over flat
    simp only [List.map_cons, List.flatten_cons, Nat.zero_mul, List.take_zero, List.nil_append, Nat.zero_add, List.set_cons_zero, bvs_length, hl]
    rw [List.drop_append, bvs_length, h1, List.drop_eq_nil_of_le (by rw [bvs_length, h1]; omega)]
    simp
  | b :: s, h, i + 1, l, hi, hl => by
    have h1 := h b (by simp)
    have ih := flat_set (s := s) (fun c hc => h c (by simp [hc])) (i := i) (l := l) (by simpa using hi) hl
    unfold over at ih ⊢
    unfold flat at ih ⊢
    simp only [List.map_cons, List.flatten_cons, List.set_cons_succ]
    rw [← ih, List.take_append, List.drop_append, bvs_length, bvs_length, h1]
    rw [List.take_of_length_le (by rw [bvs_length, h1]; omega), List.drop_eq_nil_of_le (by rw [bvs_length, h1]; omega)]
    rw [show (i + 1) * 128 - 128 = i * 128 by omega, show (i + 1) * 128 + l.length - 128 = i * 128 + l.length by omega]
    simp

theorem flat_over : ∀ {s : List (List UInt8)} (h : ∀ b ∈ s, b.length = 128) {i : Nat} {a : List UInt8}, i < s.length → a.length ≤ 128 → over (flat s) (i * 128) (bvs a) = flat (s.set i (a ++ (s.getD i []).drop a.length))
  | [], _, _, _, hi, _ => by simp at hi
  | b :: s, h, 0, a, hi, hl => by
    have h1 := h b (by simp)
    unfold over flat
    simp only [List.map_cons, List.flatten_cons, Nat.zero_mul, List.take_zero, List.nil_append, Nat.zero_add, List.set_cons_zero, bvs_length]
    rw [List.drop_append, bvs_length, h1, show a.length - 128 = 0 by omega]
    simp [bvs, List.getD]
  | b :: s, h, i + 1, a, hi, hl => by
    have h1 := h b (by simp)
    have ih := flat_over (s := s) (fun c hc => h c (by simp [hc])) (i := i) (a := a) (by simpa using hi) hl
    have e : (b :: s).getD (i + 1) [] = s.getD i [] := by simp [List.getD]
    rw [e]
    unfold over at ih ⊢
    unfold flat at ih ⊢
    simp only [List.map_cons, List.flatten_cons, List.set_cons_succ]
    rw [← ih, List.take_append, List.drop_append, bvs_length, bvs_length, h1]
    rw [List.take_of_length_le (by rw [bvs_length, h1]; omega), List.drop_eq_nil_of_le (by rw [bvs_length, h1]; omega)]
    rw [show (i + 1) * 128 - 128 = i * 128 by omega, show (i + 1) * 128 + a.length - 128 = i * 128 + a.length by omega]
    simp
theorem over_app (L T : List Value) (o : Nat) (cs : List Value) (h : o + cs.length ≤ L.length) : over (L ++ T) o cs = over L o cs ++ T := by
  unfold over
  rw [List.take_append_of_le_length (by omega), List.drop_append_of_le_length h]
  simp
/-- What a disk holds. -/
structure DS where
  s : List (List UInt8)
  S : Int → Option (List UInt8)
  fuse : Int
  down : Bool
  wr : Int
  fl : Int
  /-- How many sectors its row has room for, and the cells behind those that are there. -/
  cap : Nat
  tail : List Value

/-- A write or flush is paid. -/
def DS.spend (x : DS) : DS := if x.fuse = 0 then { x with fuse := -1, down := true } else if 0 < x.fuse then { x with fuse := x.fuse - 1 } else x
def DS.has (x : DS) (i : Int) : Bool := decide (0 ≤ i) && decide (i < (x.s.length : Int))
def upd (S : Int → Option (List UInt8)) (i : Int) (l : List UInt8) : Int → Option (List UInt8) := fun y => if y = i then some l else S y
/-- What Write answers. -/
def DS.wcode (x : DS) (i : Int) (l : Nat) : Int := if x.down = true then 50 else if x.has i = false then 1 else if 128 < l then 2 else if l < 128 then 6 else if x.fuse = 0 then 50 else 0
/-- What a disk is behind a Write. -/
def DS.write (x : DS) (i : Int) (b : List UInt8) : DS :=
  if x.down = true then x else if x.has i = false then x else if 128 < b.length then x else if b.length < 128 then x else if x.fuse = 0 then x.spend else { x.spend with S := upd x.S i b, wr := wrap64 (x.wr + 1) }
def DS.fcode (x : DS) : Int := if x.down = true then 50 else if x.fuse = 0 then 50 else 0
/-- The sectors with what was written laid over them, as far as left says no other. -/
def laid (s : List (List UInt8)) (S : Int → Option (List UInt8)) (left : Int → Bool) : List (List UInt8) := s.mapIdx fun i b => if left (i : Int) = true then b else (S (i : Int)).getD b
def DS.flush (x : DS) : DS :=
  if x.down = true then x else if x.fuse = 0 then x.spend else { x.spend with s := laid x.s x.S (fun _ => false), S := fun _ => none, fl := wrap64 (x.fl + 1) }
def DS.sure (x : DS) (i : Int) : List UInt8 × Int := if x.has i = false then ([], 1) else (x.s.getD i.toNat [], 0)
def DS.read (x : DS) (i : Int) : List UInt8 × Int := if x.down = true then ([], 50) else match x.S i with
  | some l => (l, 0)
  | none => x.sure i
def DS.settle (x : DS) (i at_ : Int) : DS := match x.S i with
  | some l => { x with s := x.s.set i.toNat (l.take (min (max at_ 0) 128).toNat ++ (x.s.getD i.toNat []).drop (min (max at_ 0) 128).toNat) }
  | none => x
def DS.crash (x : DS) (keep : List Int) (tear at_ : Int) : DS := { ((keep.foldl (fun y i => y.settle i 128) x).settle tear at_) with S := fun _ => none, fuse := -1, down := true }
def DS.up (x : DS) : DS := if x.down = true then { x with S := fun _ => none, down := false } else x
/-- Block d is a disk, its durable sectors at block g, the others in the map m of at most n. -/
structure DiskAt (P : Program) (w : World) (d g m n : Nat) (x : DS) : Prop where
  blk : w.heap[d]? = some (.cells #[.int .i64 x.wr, .int .i64 x.fl, .slice (some ⟨g, 0, none⟩) x.s.length x.cap, .map (some m), .int .i64 x.fuse, .bool x.down] 61 (0, 0))
  row : w.heap[g]? = some (.cells (flat x.s ++ x.tail).toArray 112 (0, 0))
  map : MapIs P 3 w m n x.S
  len : ∀ b ∈ x.s, b.length = 128
  ne : d ≠ g
  few : x.s.length ≤ 4096
  wfu : wfi x.fuse
  wwr : wfi x.wr
  wfl : wfi x.fl

variable {P : Program} {w w' : World} {d g m n : Nat} {x : DS}
theorem DiskAt.keep (h : DiskAt P w d g m n x) (h1 : w'.heap[d]? = w.heap[d]?) (h2 : w'.heap[g]? = w.heap[g]?) (h3 : w'.heap[m]? = w.heap[m]?) : DiskAt P w' d g m n x :=
  ⟨h1.trans h.blk, h2.trans h.row, h.map.keep h3, h.len, h.ne, h.few, h.wfu, h.wwr, h.wfl⟩
theorem DiskAt.md (h : DiskAt P w d g m n x) : m ≠ d := h.map.ne h.blk
theorem DiskAt.mg (h : DiskAt P w d g m n x) : m ≠ g := h.map.ne h.row
theorem DiskAt.dlt (h : DiskAt P w d g m n x) : d < w.heap.size := lt_of_row h.blk
theorem DiskAt.glt (h : DiskAt P w d g m n x) : g < w.heap.size := lt_of_row h.row
theorem DiskAt.mlt (h : DiskAt P w d g m n x) : m < w.heap.size := h.map.lt
theorem DiskAt.alloc (h : DiskAt P w d g m n x) (o : Obj) : DiskAt P (w.alloc o) d g m n x := h.keep (Below.heap_alloc w o d h.dlt) (Below.heap_alloc w o g h.glt) (Below.heap_alloc w o m h.mlt)
theorem DiskAt.drewN (h : DiskAt P w d g m n x) (i : Nat) : DiskAt P (w.drewN i) d g m n x := h.keep rfl rfl rfl
theorem DiskAt.mono {n' : Nat} (h : DiskAt P w d g m n x) (hn : n ≤ n') : DiskAt P w d g m n' x := ⟨h.blk, h.row, h.map.mono hn, h.len, h.ne, h.few, h.wfu, h.wwr, h.wfl⟩
/-- Its own blocks. -/
def own3 (d g m : Nat) (k : Nat) : Prop := k = d ∨ k = g ∨ k = m
theorem DiskAt.frame {T : Nat → Prop} (h : DiskAt P w d g m n x) (f : Frm T w w') (h1 : ¬ T d) (h2 : ¬ T g) (h3 : ¬ T m) : DiskAt P w' d g m n x := h.keep (f.block d h.dlt h1) (f.block g h.glt h2) (f.block m h.mlt h3)
theorem DiskAt.below {B : Nat} (h : DiskAt P w d g m n x) (f : Below B w w') (hB : w.heap.size ≤ B) : DiskAt P w' d g m n x := h.keep (f.block d (by have := h.dlt; omega)) (f.block g (by have := h.glt; omega)) (f.block m (by have := h.mlt; omega))
theorem DiskAt.cell (h : DiskAt P w d g m n x) (i : Nat) {v : Value} (hv : (#[.int .i64 x.wr, .int .i64 x.fl, .slice (some ⟨g, 0, none⟩) x.s.length x.cap, .map (some m), .int .i64 x.fuse, .bool x.down] : Array Value)[i]? = some v) : w.cell? ⟨d, i, none⟩ = some v := by
  rw [cell_of_row w d i _ _ _ h.blk]
  exact hv
theorem DiskAt.c0 (h : DiskAt P w d g m n x) : w.cell? ⟨d, 0, none⟩ = some (.int .i64 x.wr) := h.cell 0 rfl
theorem DiskAt.c1 (h : DiskAt P w d g m n x) : w.cell? ⟨d, 1, none⟩ = some (.int .i64 x.fl) := h.cell 1 rfl
theorem DiskAt.c2 (h : DiskAt P w d g m n x) : w.cell? ⟨d, 2, none⟩ = some (.slice (some ⟨g, 0, none⟩) x.s.length x.cap) := h.cell 2 rfl
theorem DiskAt.c3 (h : DiskAt P w d g m n x) : w.cell? ⟨d, 3, none⟩ = some (.map (some m)) := h.cell 3 rfl
theorem DiskAt.c4 (h : DiskAt P w d g m n x) : w.cell? ⟨d, 4, none⟩ = some (.int .i64 x.fuse) := h.cell 4 rfl
theorem DiskAt.c5 (h : DiskAt P w d g m n x) : w.cell? ⟨d, 5, none⟩ = some (.bool x.down) := h.cell 5 rfl
theorem DiskAt.free (h : DiskAt P w d g m n x) (i : Nat) : w.frozen? ⟨d, i, none⟩ = false := frozen_of_row w d i _ _ h.blk
theorem DiskAt.setWr (h : DiskAt P w d g m n x) {z : Int} (hz : wfi z) : DiskAt P (w.setCell ⟨d, 0, none⟩ (.int .i64 z)) d g m n { x with wr := z } :=
  ⟨Go.Joins.block_setCell (i := 0) h.blk (.int .i64 z), (Below.heap_setCell w ⟨d, 0, none⟩ _ g h.ne.symm).trans h.row, h.map.keep (Below.heap_setCell w ⟨d, 0, none⟩ _ m h.md), h.len, h.ne, h.few, h.wfu, hz, h.wfl⟩
theorem DiskAt.setFl (h : DiskAt P w d g m n x) {z : Int} (hz : wfi z) : DiskAt P (w.setCell ⟨d, 1, none⟩ (.int .i64 z)) d g m n { x with fl := z } :=
  ⟨Go.Joins.block_setCell (i := 1) h.blk (.int .i64 z), (Below.heap_setCell w ⟨d, 1, none⟩ _ g h.ne.symm).trans h.row, h.map.keep (Below.heap_setCell w ⟨d, 1, none⟩ _ m h.md), h.len, h.ne, h.few, h.wfu, h.wwr, hz⟩
theorem DiskAt.setFuse (h : DiskAt P w d g m n x) {z : Int} (hz : wfi z) : DiskAt P (w.setCell ⟨d, 4, none⟩ (.int .i64 z)) d g m n { x with fuse := z } :=
  ⟨Go.Joins.block_setCell (i := 4) h.blk (.int .i64 z), (Below.heap_setCell w ⟨d, 4, none⟩ _ g h.ne.symm).trans h.row, h.map.keep (Below.heap_setCell w ⟨d, 4, none⟩ _ m h.md), h.len, h.ne, h.few, hz, h.wwr, h.wfl⟩
theorem DiskAt.setDown (h : DiskAt P w d g m n x) (z : Bool) : DiskAt P (w.setCell ⟨d, 5, none⟩ (.bool z)) d g m n { x with down := z } :=
  ⟨Go.Joins.block_setCell (i := 5) h.blk (.bool z), (Below.heap_setCell w ⟨d, 5, none⟩ _ g h.ne.symm).trans h.row, h.map.keep (Below.heap_setCell w ⟨d, 5, none⟩ _ m h.md), h.len, h.ne, h.few, h.wfu, h.wwr, h.wfl⟩
theorem DiskAt.setMap (h : DiskAt P w d g m n x) {n' : Nat} {S' : Int → Option (List UInt8)} (ht : w.mapTurned w' m) (h' : MapIs P 3 w' m n' S') : DiskAt P w' d g m n' { x with S := S' } :=
  ⟨(ht.grown.block d h.dlt (by intro e; cases e; exact h.md rfl)).trans h.blk, (ht.grown.block g h.glt (by intro e; cases e; exact h.mg rfl)).trans h.row, h', h.len, h.ne, h.few, h.wfu, h.wwr, h.wfl⟩
theorem DiskAt.setSure (h : DiskAt P w d g m n x) {i : Nat} {l : List UInt8} (hi : i < x.s.length) (hl : l.length = 128) : DiskAt P (w.setCells g (i * 128) (bvs l)) d g m n { x with s := x.s.set i l } := by
  refine ⟨?_, ?_, h.map.keep (setCells_other h.mg _ _ _), ?_, h.ne, by simpa using h.few, h.wfu, h.wwr, h.wfl⟩
  · rw [setCells_other h.ne]
    simpa using h.blk
  · rw [← flat_set h.len hi hl, ← over_app _ _ _ _ (by rw [bvs_length, hl, flat_length h.len]; omega)]
    exact heap_setCells (w := w) _ _ _ _ h.row (by rw [List.length_append, bvs_length, hl, flat_length h.len]; omega)
  · intro b hb
    rcases List.mem_or_eq_of_mem_set hb with hb | rfl
    · exact h.len b hb
    · exact hl
theorem DiskAt.setOver (h : DiskAt P w d g m n x) {i : Nat} {a : List UInt8} (hi : i < x.s.length) (ha : a.length ≤ 128) : DiskAt P (w.setRow g (over (flat x.s ++ x.tail) (i * 128) (bvs a)).toArray) d g m n { x with s := x.s.set i (a ++ (x.s.getD i []).drop a.length) } := by
  refine ⟨?_, ?_, h.map.keep (setRow_other w g m _ h.mg), ?_, h.ne, by simpa using h.few, h.wfu, h.wwr, h.wfl⟩
  · rw [setRow_other w g d _ h.ne]
    simpa using h.blk
  · rw [over_app _ _ _ _ (by rw [bvs_length, flat_length h.len]; omega), flat_over h.len hi ha]
    exact setRow_heap w g _ _ _ _ h.row
  · intro b hb
    rcases List.mem_or_eq_of_mem_set hb with hb | rfl
    · exact h.len b hb
    · have := h.len _ (List.getElem_mem hi)
      simp [List.getD, hi, this]
      omega
theorem DiskAt.there (h : DiskAt P w d g m n x) {k : Nat} (hk : k < x.s.length) {l : List UInt8} (hl : l.length = 128) : w.there g (k * 128) (bvs l).toArray.size := by
  intro j hj
  have e1 := flat_length h.len
  rw [List.size_toArray, bvs_length, hl] at hj
  have hlt : k * 128 + j < (flat x.s ++ x.tail).length := by rw [List.length_append, e1]; omega
  refine ⟨?_, frozen_of_row w g _ _ _ h.row⟩
  rw [cell_of_row w g (k * 128 + j) _ _ _ h.row]
  rw [List.length_append] at hlt
  simp [hlt]
/-- A durable sector's cells. -/
theorem DiskAt.sector (h : DiskAt P w d g m n x) {i : Nat} {l : List UInt8} (hi : x.s[i]? = some l) : w.rangeAt g (i * 128) (bvs l) := by
  intro j v hj
  rw [cell_of_row w g (i * 128 + j) _ _ _ h.row]
  have hf := flat_at h.len hi j v hj
  rw [List.getElem?_toArray, List.getElem?_append_left (List.getElem?_eq_some_iff.1 hf).1]
  exact hf
end Go.Proofs.Ytdjpeebekpjiiaa.Dk
