/- The decoder: its theory, and its list. -/
import Derived.Test.YtnfobnnbeefeeaaGreatDoorG4
import Derived.Test.YtnfobnnbeefeeaaGreatDoorG1
import Derived.Test.YtnfobnnbeefeeaaGreatDoorG2
namespace Go.Proofs.YtnfobnnbeefeeaaGreatDoor.Wi
open Go Go.RowKit
set_option linter.unusedVariables false
set_option linter.unusedSimpArgs false
def dLoop (g : Nat → Nat → Int → VT × Nat × Nat × Int) : Nat → Nat → Nat → Int → List VT × Nat × Nat × Int
  | 0, p, k, e => ([], p, k, e)
  | n + 1, p, k, e => if e ≠ 0 then ([], p, k, e) else ((g p k e).1 :: (dLoop g n (g p k e).2.1 (g p k e).2.2.1 (g p k e).2.2.2).1, (dLoop g n (g p k e).2.1 (g p k e).2.2.1 (g p k e).2.2.2).2)
/-- What is read as a value in d lists, behind p values, from k on, with the error e; f lists are left. -/
def dV (xs : List UInt8) : Nat → Nat → Nat → Nat → Int → VT × Nat × Nat × Int
  | 0, _, p, k, e => (.mk 0 0 [] none 0 [], p, k, e)
  | f + 1, d, p, k, e =>
    let x := rb xs k e
    let e2 := fe x.2.2 (if 256 < p + 1 then 2 else 0)
    if x.1.toNat = 0 then (.mk 0 0 [] none 0 [], p + 1, x.2.1, e2)
    else if x.1.toNat = 1 then (.mk 1 (zag (rn xs x.2.1 e2 18446744073709551615).1) [] none 0 [], p + 1, (rn xs x.2.1 e2 18446744073709551615).2.1, (rn xs x.2.1 e2 18446744073709551615).2.2)
    else if x.1.toNat = 2 then (.mk 2 0 (rt xs x.2.1 e2).1 none 0 [], p + 1, (rt xs x.2.1 e2).2.1, fe (rt xs x.2.1 e2).2.2 (if 256 < (rt xs x.2.1 e2).1.length then 2 else 0))
    else if x.1.toNat = 3 then
      let c := rn xs x.2.1 (if 8 ≤ d then fe e2 30 else e2) 4096
      let q := dLoop (dV xs f (d + 1)) c.1 (p + 1) c.2.1 (fe c.2.2 (if 64 < c.1 then 2 else 0))
      (.mk 3 0 [] none 0 q.1, q.2)
    else (.mk (x.1.toNat : Int) 0 [] none 0 [], p + 1, x.2.1, fe e2 9)
/-- A decoder and its reader. -/
structure DcS (w : World) (db b : Nat) (r : Option Nat) (xs : List UInt8) (p k : Nat) (e : Int) : Prop where
  row : w.heap[db]? = some (.cells #[.pointer (some ⟨b, 0, none⟩), .int .i64 (p : Int)] 163 (0, 0))
  rd : Rd w b r xs k e
  ne : db ≠ b
  nr : ∀ g, r = some g → g ≠ db
structure Fr2 (w w' : World) (b db : Nat) : Prop where
  os : w'.os = w.os
  tape : w'.tape = w.tape
  output : w'.output = w.output
  size : w.heap.size ≤ w'.heap.size
  block : ∀ k, k < w.heap.size → k ≠ b → k ≠ db → w'.heap[k]? = w.heap[k]?
theorem Fr2.refl (w : World) (b db : Nat) : Fr2 w w b db := ⟨rfl, rfl, rfl, Nat.le_refl _, fun _ _ _ _ => rfl⟩
theorem Fr2.trans {w w' w'' : World} {b db : Nat} (h : Fr2 w w' b db) (k : Fr2 w' w'' b db) : Fr2 w w'' b db :=
  ⟨k.os.trans h.os, k.tape.trans h.tape, k.output.trans h.output, Nat.le_trans h.size k.size, fun i hi h1 h2 => (k.block i (Nat.lt_of_lt_of_le hi h.size) h1 h2).trans (h.block i hi h1 h2)⟩
theorem Fr2.of {w w' : World} {b db : Nat} (h : Fr w w' b none) : Fr2 w w' b db := ⟨h.os, h.tape, h.output, h.size, fun k hk h1 _ => h.block k hk h1 (fun e => by cases e)⟩
theorem Fr2.ofB {w w' : World} {b db : Nat} (h : Below w.heap.size w w') : Fr2 w w' b db := ⟨h.os, h.tape, h.output, h.size, fun k hk _ _ => h.block k hk⟩
theorem Fr2.below {w w' : World} {b db B : Nat} (h : Fr2 w w' b db) (h1 : B ≤ b) (h2 : B ≤ db) (h3 : B ≤ w.heap.size) : Below B w w' := ⟨h.os, h.tape, h.output, h.size, fun k hk => h.block k (by omega) (by omega) (by omega)⟩
theorem DcS.lt {w : World} {db b : Nat} {r : Option Nat} {xs : List UInt8} {p k : Nat} {e : Int} (h : DcS w db b r xs p k e) : db < w.heap.size ∧ b < w.heap.size := ⟨lt_of_rowK h.row, h.rd.lt⟩
theorem DcS.call {w w' : World} {db b : Nat} {r : Option Nat} {xs : List UInt8} {p k k' : Nat} {e e' : Int} (h : DcS w db b r xs p k e) (hf : Fr w w' b none) (hr : Rd w' b r xs k' e') : DcS w' db b r xs p k' e' :=
  ⟨(hf.block db h.lt.1 h.ne (fun e => by cases e)).trans h.row, hr, h.ne, h.nr⟩
theorem DcS.below {w w' : World} {db b : Nat} {r : Option Nat} {xs : List UInt8} {p k : Nat} {e : Int} (h : DcS w db b r xs p k e) (hb : Below w.heap.size w w') : DcS w' db b r xs p k e :=
  ⟨(hb.block db h.lt.1).trans h.row, h.rd.below (B := 0) hb, h.ne, h.nr⟩
theorem DcS.keep {w w' : World} {db b : Nat} {r : Option Nat} {xs : List UInt8} {p k : Nat} {e : Int} (h : DcS w db b r xs p k e) (hd : w'.heap[db]? = w.heap[db]?) (hb : w'.heap[b]? = w.heap[b]?) (hr : ∀ g, r = some g → w'.heap[g]? = w.heap[g]?) : DcS w' db b r xs p k e :=
  ⟨hd.trans h.row, h.rd.keep hb hr, h.ne, h.nr⟩
theorem DcS.c0 {w : World} {db b : Nat} {r : Option Nat} {xs : List UInt8} {p k : Nat} {e : Int} (h : DcS w db b r xs p k e) : w.cell? ⟨db, 0, none⟩ = some (.pointer (some ⟨b, 0, none⟩)) := by rw [cell_of_rowW w db 0 _ _ _ h.row]; rfl
theorem DcS.c1 {w : World} {db b : Nat} {r : Option Nat} {xs : List UInt8} {p k : Nat} {e : Int} (h : DcS w db b r xs p k e) : w.cell? ⟨db, 1, none⟩ = some (.int .i64 (p : Int)) := by rw [cell_of_rowW w db 1 _ _ _ h.row]; rfl
theorem elems_app {B n c m : Nat} {ao : Option Addr} {wq w4 w5 : World} {Y : List VT} {z : VT} {v' : Value} (hBq : B ≤ wq.heap.size)
    (hel : ∀ y ∈ Y, y.At wq.heap.size wq ∧ y.In (B ≤ ·) ∧ y.In (fun k => some k ≠ (Value.slice ao n c).ownBlock)) (hs : wq.heap.size ≤ w4.heap.size) (hk : ∀ k, k < wq.heap.size → B ≤ k → w4.heap[k]? = wq.heap[k]?)
    (hz : z.At w4.heap.size w4 ∧ z.In (wq.heap.size ≤ ·)) (hlt : ∀ g, (Value.slice ao n c).ownBlock = some g → g < wq.heap.size) (h45 : w4.heap.size ≤ w5.heap.size) (blk : ∀ k, k < w4.heap.size → some k ≠ (Value.slice ao n c).ownBlock → w5.heap[k]? = w4.heap[k]?)
    (gr : v'.ownBlock = (Value.slice ao n c).ownBlock ∨ v'.ownBlock = some m) (hm : w4.heap.size ≤ m) : ∀ y ∈ Y ++ [z], y.At w5.heap.size w5 ∧ y.In (B ≤ ·) ∧ y.In (fun k => some k ≠ v'.ownBlock) := by
  have a2new : ∀ q, q < w4.heap.size → some q ≠ (Value.slice ao n c).ownBlock → some q ≠ v'.ownBlock := by
    intro q h1 h2 h3
    rcases gr with h | h
    · rw [h] at h3; exact h2 h3
    · rw [h] at h3; injection h3 with h3; omega
  intro y hy
  rcases List.mem_append.1 hy with hy | hy
  · obtain ⟨p1, p2, p3⟩ := hel y hy
    have q1 : y.At wq.heap.size w5 := p1.keepT (p2.both p3) (fun q hq hT => (blk q (by omega) hT.2).trans (hk q hq hT.1))
    exact ⟨q1.mono (by omega), p2, (p1.inN.both p3).imp fun q hq => a2new q (by omega) hq.2⟩
  · obtain rfl := List.mem_singleton.1 hy
    obtain ⟨g2, g3⟩ := hz
    have hne : ∀ q, wq.heap.size ≤ q → some q ≠ (Value.slice ao n c).ownBlock := fun q hq e => by have := hlt q e.symm; omega
    exact ⟨(g2.keepT g3 (fun q h1 h2 => blk q h1 (hne q h2))).mono h45, g3.imp fun q hq => Nat.le_trans hBq hq, (g2.inN.both g3).imp fun q hq => a2new q hq.1 (hne q hq.2)⟩
def DecPost (w : World) (db b : Nat) (r : Option Nat) (xs : List UInt8) (X : VT × Nat × Nat × Int) (e : Ending) (w' : World) : Prop :=
  ∃ y : VT, e = .returned (.agg y.cells.toArray) ∧ y.nz = X.1 ∧ y.At w'.heap.size w' ∧ y.In (w.heap.size ≤ ·) ∧ DcS w' db b r xs X.2.1 X.2.2.1 X.2.2.2 ∧ Fr2 w w' b db
def DlsPost (w : World) (db b : Nat) (r : Option Nat) (xs : List UInt8) (X : List VT × Nat × Nat × Int) (e : Ending) (w' : World) : Prop :=
  ∃ ao c Y, e = .returned (.slice ao Y.length c) ∧ Y.map VT.nz = X.1 ∧ (∀ y ∈ Y, y.At w'.heap.size w' ∧ y.In (w.heap.size ≤ ·)) ∧ w'.ownsRow w.heap.size 26 4 (.slice ao Y.length c) Y.length (vcs Y) ∧ Y.length ≤ 4096 ∧
    DcS w' db b r xs X.2.1 X.2.2.1 X.2.2.2 ∧ Fr2 w w' b db
def DecAny (f : Nat) : Prop := ∀ (d p k : Nat) (e : Int) (w : World) (db b : Nat) (r : Option Nat) (xs : List UInt8), d + f = 9 → d ≤ 8 → p ≤ 256 → xs.length ≤ 140737488355328 → DcS w db b r xs p k e →
  Calls Tryz.prog 140 #[.pointer (some ⟨db, 0, none⟩), .int .i64 (d : Int)] w (DecPost w db b r xs (dV xs f d p k e))
theorem fe_ok {e a : Int} (h : fe e a = 0) : e = 0 ∧ a = 0 := by
  unfold fe at h
  split at h
  · exact ⟨by assumption, h⟩
  · exact absurd h (by assumption)
theorem dLoop_le {g : Nat → Nat → Int → VT × Nat × Nat × Int} (hg : ∀ p k e, p ≤ 256 → (g p k e).2.2.2 = 0 → (g p k e).2.1 ≤ 256) : ∀ (n p k : Nat) (e : Int), p ≤ 256 → (dLoop g n p k e).2.2.2 = 0 → (dLoop g n p k e).2.1 ≤ 256
  | 0, p, k, e, hp, h => hp
  | n + 1, p, k, e, hp, h => by
    rw [dLoop] at h ⊢
    by_cases he : e = 0
    · rw [if_neg (not_not_intro he)] at h ⊢
      by_cases h2 : (g p k e).2.2.2 = 0
      · exact dLoop_le hg n _ _ _ (hg p k e hp h2) h
      · exfalso
        cases n with
        | zero => exact h2 h
        | succ n => rw [dLoop, if_pos h2] at h; exact h2 h
    · rw [if_pos he] at h; exact absurd h he
theorem dg_stuck (xs : List UInt8) {e : Int} (he : e ≠ 0) (f k i n : Nat) : (dg (f + 1) xs k e i n).2.1 = k ∧ (dg (f + 1) xs k e i n).2.2 = e := by
  have hr : rb xs k e = (0, k, e) := by unfold rb; rw [if_pos he]
  have h0 : (e == 0) = false := by simpa using he
  rw [dg]
  simp only [hr, h0, Bool.and_false]
  simp [he]
theorem rn_stuck (xs : List UInt8) {e : Int} (he : e ≠ 0) (k m : Nat) : rn xs k e m = (0, k, e) := by
  obtain ⟨h1, h2⟩ := dg_stuck xs he 9 k 0 0
  unfold rn
  dsimp only
  rw [h1, h2]
  have h3 : fe e 2 = e := by unfold fe; rw [if_neg he]
  rw [h3]
  simp [he]
theorem dLoop_err0 {g : Nat → Nat → Int → VT × Nat × Nat × Int} (n p k : Nat) (e : Int) (h : (dLoop g n p k e).2.2.2 = 0) : e = 0 := by
  cases n with
  | zero => exact h
  | succ n =>
    by_cases he : e = 0
    · exact he
    · rw [dLoop, if_pos he] at h; exact h
theorem rn_err0 {xs : List UInt8} {k : Nat} {e : Int} {m : Nat} (h : (rn xs k e m).2.2 = 0) : e = 0 := by
  by_cases he : e = 0
  · exact he
  · rw [rn_stuck xs he] at h; exact h
theorem rt_stuck (xs : List UInt8) {e : Int} (he : e ≠ 0) (k : Nat) : rt xs k e = ([], k, e) := by
  unfold rt
  rw [rn_stuck xs he]
  unfold nx
  rw [if_pos he]
theorem rt_err0 {xs : List UInt8} {k : Nat} {e : Int} (h : (rt xs k e).2.2 = 0) : e = 0 := by
  by_cases he : e = 0
  · exact he
  · rw [rt_stuck xs he] at h; exact h
theorem over_ok {p : Nat} (h : (if 256 < p + 1 then (2 : Int) else 0) = 0) : p + 1 ≤ 256 := by
  split at h
  · cases h
  · omega
theorem dV_le (xs : List UInt8) : ∀ (f d p k : Nat) (e : Int), p ≤ 256 → (dV xs f d p k e).2.2.2 = 0 → (dV xs f d p k e).2.1 ≤ 256
  | 0, d, p, k, e, hp, h => hp
  | f + 1, d, p, k, e, hp, h => by
    rw [dV] at h ⊢
    dsimp only at h ⊢
    by_cases h0 : (rb xs k e).1.toNat = 0
    · rw [if_pos h0] at h ⊢
      exact over_ok (fe_ok h).2
    rw [if_neg h0] at h ⊢
    by_cases h1 : (rb xs k e).1.toNat = 1
    · rw [if_pos h1] at h ⊢
      exact over_ok (fe_ok (rn_err0 h)).2
    rw [if_neg h1] at h ⊢
    by_cases h2 : (rb xs k e).1.toNat = 2
    · rw [if_pos h2] at h ⊢
      exact over_ok (fe_ok (rt_err0 (fe_ok h).1)).2
    rw [if_neg h2] at h ⊢
    by_cases h3 : (rb xs k e).1.toNat = 3
    · rw [if_pos h3] at h ⊢
      have e4 := dLoop_err0 _ _ _ _ h
      have e3 := rn_err0 (fe_ok e4).1
      have e2 : fe (rb xs k e).2.2 (if 256 < p + 1 then 2 else 0) = 0 := by
        split at e3
        · exact (fe_ok e3).1
        · exact e3
      exact dLoop_le (fun p k e hp he => dV_le xs f (d + 1) p k e hp he) _ _ _ _ (over_ok (fe_ok e2).2) h
    · rw [if_neg h3] at h ⊢
      exact over_ok (fe_ok (fe_ok h).1).2
theorem dLoop_step {g : Nat → Nat → Int → VT × Nat × Nat × Int} {n p k : Nat} {Y : List VT} {X : List VT × Nat × Nat × Int} (h : X = (Y ++ (dLoop g (n + 1) p k 0).1, (dLoop g (n + 1) p k 0).2)) :
    X = ((Y ++ [(g p k 0).1]) ++ (dLoop g n (g p k 0).2.1 (g p k 0).2.2.1 (g p k 0).2.2.2).1, (dLoop g n (g p k 0).2.1 (g p k 0).2.2.1 (g p k 0).2.2.2).2) := by
  rw [h, dLoop, if_neg (by simp)]
  simp
def dlRel (w : World) (db b : Nat) (r : Option Nat) (xs : List UInt8) (g : Nat → Nat → Int → VT × Nat × Nat × Int) (n d : Nat) (X : List VT × Nat × Nat × Int) (lv i : Value) (wr : World) : Prop :=
  ∃ (j : Nat) (Y : List VT) (ao : Option Addr) (c p k : Nat) (e : Int), i = .int .i64 (j : Int) ∧ j ≤ n ∧ Y.length ≤ j ∧ lv = .slice ao Y.length c ∧ (e = 0 → p ≤ 256) ∧ (e = 0 → d < 8) ∧
    X = (Y.map VT.nz ++ (dLoop g (n - j) p k e).1, (dLoop g (n - j) p k e).2) ∧ wr.ownsRow w.heap.size 26 4 (.slice ao Y.length c) Y.length (vcs Y) ∧
    (∀ y ∈ Y, y.At wr.heap.size wr ∧ y.In (w.heap.size ≤ ·) ∧ y.In (fun k => some k ≠ (Value.slice ao Y.length c).ownBlock)) ∧ DcS wr db b r xs p k e ∧ Fr2 w wr b db
set_option maxHeartbeats 8000000 in
set_option maxRecDepth 100000 in
theorem decList_any (f : Nat) (ih : DecAny f) (d p k : Nat) (e : Int) (w : World) (db b : Nat) (r : Option Nat) (xs : List UInt8) (hd : d + 1 + f = 9) (hp : e = 0 → p ≤ 256) (hsz : xs.length ≤ 140737488355328) (hS : DcS w db b r xs p k e) :
    Calls Tryz.prog 157 #[.pointer (some ⟨db, 0, none⟩), .int .i64 (d : Int)] w (DlsPost w db b r xs (dLoop (dV xs f (d + 1)) (rn xs k (if 8 ≤ d then fe e 30 else e) 4096).1 p (rn xs k (if 8 ≤ d then fe e 30 else e) 4096).2.1 (fe (rn xs k (if 8 ≤ d then fe e 30 else e) 4096).2.2 (if 64 < (rn xs k (if 8 ≤ d then fe e 30 else e) 4096).1 then 2 else 0)))) := by
  obtain ⟨i0, hi0, hz0, hz1, hz2⟩ := info_parts Tryz.infoVal
  have HI := Lib.hid (And.intro hi0 (And.intro hz0 (And.intro hz1 hz2)))
  clear hi0 hz0 hz1 hz2
  obtain ⟨e3, he3⟩ : ∃ e3, e3 = (if 8 ≤ d then fe e 30 else e) := ⟨_, rfl⟩
  rw [← he3]
  have hc0 := hS.c0
  obtain ⟨C, hC⟩ : ∃ C, C = rn xs k e3 4096 := ⟨_, rfl⟩
  have hcle : C.1 ≤ 4096 := by rw [hC]; exact rn_le xs k e3 4096
  have hcerr : C.2.2 = 0 → e = 0 ∧ d < 8 := fun h => by
    rw [hC] at h
    have h3 := rn_err0 h
    rw [he3] at h3
    by_cases h8 : 8 ≤ d
    · rw [if_pos h8] at h3
      have := fe_ok h3
      exact absurd this.2 (by decide)
    · rw [if_neg h8] at h3
      exact ⟨h3, by omega⟩
  have HCN := Lib.hid (fun W (h : DcS W db b r xs p k e3) => rcount_any h.rd hsz)
  rw [← hC] at HCN ⊢
  obtain ⟨n, kc, ec⟩ := C
  dsimp only at hcle hcerr HCN ⊢
  obtain ⟨e4, he4⟩ : ∃ e4, e4 = fe ec (if 64 < n then 2 else 0) := ⟨_, rfl⟩
  rw [← he4]
  obtain ⟨X, hX⟩ : ∃ X, X = dLoop (dV xs f (d + 1)) n p kc e4 := ⟨_, rfl⟩
  rw [← hX]
  have HX := Lib.hid hX
  have hn64 : (64 : Int) < (n : Int) ∨ ¬ (64 : Int) < (n : Int) := by omega
  have AM := Lib.hid (fun W => atMost_any (n : Int) 64 W)
  have ham : (if (64 : Int) < (n : Int) then (2 : Int) else 0) = (if 64 < n then 2 else 0) := by
    by_cases h : 64 < n
    · rw [if_pos h, if_pos (by omega)]
    · rw [if_neg h, if_neg (by omega)]
  rw [ham] at AM
  obtain ⟨a, ha⟩ : ∃ a : Int, a = (if 64 < n then 2 else 0) := ⟨_, rfl⟩
  rw [← ha] at AM he4
  have HE4 := Lib.hid he4
  have HE3 := Lib.hid he3
  have HCE := Lib.hid hcerr
  have HS := Lib.hid hS
  have HP := Lib.hid hp
  have FA := Lib.hid (fun W p k e (h : DcS W db b r xs p k e) e' => fail_any h.rd e')
  have IH := Lib.hid ih
  clear hX hC he4 he3 hcerr hS hp ham ha ih hn64
  have hd9 : d + 1 ≤ 9 := by omega
  go_enter Tryz.func157, Tryz.ntmps157
  go_upto_if 8 with (fail)
  go_cut [] (fun wx => DcS wx db b r xs p k e3 ∧ Fr2 w wx b db)
  case first =>
    by_cases h8 : 8 ≤ d
    · have h8' : (8 : Int) ≤ (d : Int) := by omega
      have HE := Lib.hid (HE3.out.trans (if_pos h8))
      have F30 := Lib.hid (FA.out w p k e HS.out 30)
      go_wp2_with fail
      refine F30.out.mono ?_
      rintro q w2 ⟨rfl, hr2, hf2⟩
      have RL := Lib.hid (show DcS w2 db b r xs p k e3 ∧ Fr2 w w2 b db by rw [HE.out]; exact ⟨HS.out.call hf2 hr2, Fr2.of hf2⟩)
      clear hr2 hf2
      go_wp2_with fail
      go_meet
      all_goals exact RL.out
    · have h8' : ¬ (8 : Int) ≤ (d : Int) := by omega
      have HE := Lib.hid (HE3.out.trans (if_neg h8))
      go_wp2_with fail
      go_meet
      all_goals exact ⟨by rw [HE.out]; exact HS.out, Fr2.refl _ _ _⟩
  case rest =>
    obtain ⟨hS2, hF2⟩ := hcut
    have c0 := hS2.c0
    have CN := Lib.hid (HCN.out wc hS2)
    have HS2 := Lib.hid hS2
    have HF2 := Lib.hid hF2
    clear hS2 hF2 hc0
    go_wp2_with fail
    refine CN.out.mono ?_
    rintro q w3 ⟨rfl, hr3, hf3⟩
    have hS3 := HS2.out.call hf3 hr3
    have c3 := hS3.c0
    have HS3 := Lib.hid hS3
    have HF3 := Lib.hid (HF2.out.trans (Fr2.of hf3))
    clear hr3 hf3 hS3 c0
    go_upto_region 4 with fail
    (refine wp_region_quiet_tail 6 (by kernel_rfl) (by kernel_rfl) ?_; simp only [List.take_succ_cons, List.take_zero, List.drop_succ_cons, List.drop_zero]; (repeat (go_big_quiet_step ((go_at_call 135; exact Calls.quiet_of_same (AM.out _))))); refine wpQuiet_nil ?_; intro _ hw'; obtain ⟨nq, hw''⟩ := hw'; subst hw'')
    have FW := Lib.hid (FA.out (w3.drewN nq) p kc ec (HS3.out.below (below_drewG (Below.refl _ _) nq)) a)
    go_wp2_with fail
    refine FW.out.mono ?_
    rintro q w4 ⟨rfl, hr4, hf4⟩
    have hS4 : DcS w4 db b r xs p kc e4 := by
      rw [HE4.out]
      exact (HS3.out.below (below_drewG (Below.refl _ _) nq)).call hf4 hr4
    have hF4 : Fr2 w w4 b db := HF3.out.trans ((Fr2.ofB (below_drewG (Below.refl _ _) nq)).trans (Fr2.of hf4))
    have hp4 : e4 = 0 → p ≤ 256 := fun h => HP.out (HCE.out (fe_ok (HE4.out.symm.trans h)).1).1
    have R0 := Lib.hid (show dlRel w db b r xs (dV xs f (d + 1)) n d X (.slice none 0 0) (.int .i64 0) w4 from ⟨0, [], none, 0, p, kc, e4, rfl, Nat.zero_le _, Nat.le_refl _, rfl, hp4, (fun h => (HCE.out (fe_ok (HE4.out.symm.trans h)).1).2), by rw [HX.out]; rfl, World.ownsRow_nil _ _ _ _, (fun y hy => by cases hy), hS4, hF4⟩)
    have HD8 := Lib.hid (show e4 = 0 → d < 8 from fun h => (HCE.out (fe_ok (HE4.out.symm.trans h)).1).2)
    have HLT := Lib.hid (show db < w.heap.size ∧ b < w.heap.size from HS.out.lt)
    have HNE := Lib.hid (show ∀ g, r = some g → g < w.heap.size from HS.out.rd.rlt)
    clear hr4 hf4 hS4 hF4 hp4 c3 FW
    go_wp2_with fail
    go_loopw [6, 27] (fun lv i wr => dlRel w db b r xs (dV xs f (d + 1)) n d X lv i wr) (fun _ i _ => n - (intOf i).toNat)
    case atStart => exact R0.out
    case round =>
      obtain ⟨wq, rfl⟩ : ∃ wq : World, wq = wr := ⟨_, rfl⟩
      obtain ⟨j, Y, ao, c, p', k', e', rfl, hjn, hYj, rfl, hp', hdd, hX', own, hel, hSq, hFq⟩ := hrel
      have q0 : (0 : Int) ≤ (j : Int) := by omega
      by_cases hj : j < n
      · have q1 : (j : Int) < (n : Int) := by omega
        have c5 := hSq.c0
        have ER := Lib.hid (err_any hSq.rd)
        have HSq := Lib.hid hSq
        have HFq := Lib.hid hFq
        have HX2 := Lib.hid hX'
        have OWN := Lib.hid own
        have HEL := Lib.hid hel
        have HP2 := Lib.hid hp'
        clear R0 hSq hFq hX' own hel hp'
        go_wp2_with fail
        refine ER.out.mono ?_
        rintro q w5 ⟨rfl, h5⟩
        subst h5
        by_cases he : e' = 0
        · subst he
          have hd8 := hdd rfl
          have VC := Lib.hid (IH.out (d + 1) p' k' 0 wq db b r xs (by omega) (by omega) (HP2.out rfl) hsz HSq.out)
          have ed : (d : Int) + 1 = ((d + 1 : Nat) : Int) := rfl
          have hle := dV_le xs f (d + 1) p' k' 0 (HP2.out rfl)
          have hst := dLoop_step (g := dV xs f (d + 1)) (n := n - (j + 1)) (p := p') (k := k') (Y := Y.map VT.nz) (X := X) (by rw [HX2.out, show n - j = n - (j + 1) + 1 by omega])
          obtain ⟨V, hV⟩ : ∃ V, V = dV xs f (d + 1) p' k' 0 := ⟨_, rfl⟩
          rw [← hV] at VC hle hst
          have HLE := Lib.hid hle
          have HST := Lib.hid hst
          have ED := Lib.hid ed
          clear hV hle hst ed hdd
          obtain ⟨v1, vp, vk, ve⟩ := V
          go_wp2_with fail
          rw [ED.out]
          refine VC.out.mono ?_
          rintro q w6 ⟨z, rfl, hz1, hz2, hz3, hz4, hz5⟩
          dsimp only at hz1 hz4
          have hsz6 := hz5.size
          have hlt := HLT.out
          have hfq := HFq.out.size
          have ow6 : w6.ownsRow w.heap.size 26 4 (.slice ao Y.length c) Y.length (vcs Y) := own_keepK OWN.out (fun g hg hgl => hz5.block g hgl (by have := (OWN.out.lt g hg).1; omega) (by have := (OWN.out.lt g hg).1; omega))
          have OW6 := Lib.hid ow6
          have HZ := Lib.hid (And.intro hz1 (And.intro hz2 (And.intro hz3 (And.intro hz4 hz5))))
          clear hz1 hz2 hz3 hz4 hz5 ow6
          obtain ⟨zk, zn, zs, za, zc, zl⟩ := z
          unfold VT.cells
          go_wp2_with (at_builtin; refine wpList_append_own_src _ rfl (.tmp 35) (.tmp 40) 24 24 rfl w.heap.size 26 i0 (.agg #[.int .i64 0, .int .i64 0, .string ⟨#[]⟩, .slice none 0 0]) 4 56 Tryz.underlying24 HI.out.1 HI.out.2.1 HI.out.2.2.1 HI.out.2.2.2 rfl _ Y.length (vcs Y) rfl (OW6.out.alloc _) _ 1 (VT.mk zk zn zs za zc zl).cells rfl (src_oneK Tryz.underlying24 w6 (VT.mk zk zn zs za zc zl).cells (VT.cells_len _) (VT.cells_one' _)) ?b1 ?b2 ?b3 ?next)
          case b1 => unfold maxLen; omega
          case b2 => omega
          case b3 => simp; omega
          case next =>
            intro v2 w7 g7
            have gr := g7.2.2
            obtain ⟨a2, c2, rfl, own7, hb7, blk7⟩ := grew_oneK OW6.out (by omega) (Nat.le_refl _) g7
            have hz := HZ.out
            have RL := Lib.hid (show dlRel w db b r xs (dV xs f (d + 1)) n d X (.slice a2 (Y.length + 1) c2) (.int .i64 ((j + 1 : Nat) : Int)) w7 from by
              have hl : (Y ++ [VT.mk zk zn zs za zc zl]).length = Y.length + 1 := by simp
              have nb : ∀ q, q < w.heap.size → w7.heap[q]? = w6.heap[q]? := fun q hq => blk7 q (by omega) (fun e => by have := (OW6.out.lt q e.symm).1; omega)
              refine ⟨j + 1, Y ++ [VT.mk zk zn zs za zc zl], a2, c2, vp, vk, ve, rfl, hj, by rw [hl]; omega, by rw [hl], HLE.out, fun _ => hd8, ?_, ?_, ?_, ?_, ?_⟩
              · rw [List.map_append]
                simp only [List.map_cons, List.map_nil, hz.1]
                exact HST.out
              · rw [hl, vcs_app, show vcs [VT.mk zk zn zs za zc zl] = (VT.mk zk zn zs za zc zl).cells by simp [vcs]]
                exact own7
              · rw [hl]
                exact elems_app (n := Y.length) (c := c) (ao := ao) (wq := wq) (w4 := w6) (m := w6.heap.size + 1) (by omega) HEL.out hsz6 (fun q h1 h2 => hz.2.2.2.2.block q h1 (by omega) (by omega)) ⟨hz.2.1, hz.2.2.1⟩ (fun g hg => (OWN.out.lt g hg).2) hb7.size blk7 (by simpa using gr) (by omega)
              · exact hz.2.2.2.1.keep (nb db hlt.1) (nb b hlt.2) (fun g hg => nb g (HNE.out g hg))
              · have f6 := HFq.out.trans hz.2.2.2.2
                exact ⟨hb7.os.trans f6.os, hb7.tape.trans f6.tape, hb7.output.trans f6.output, Nat.le_trans f6.size hb7.size, fun q hq h1 h2 => (nb q hq).trans (f6.block q hq h1 h2)⟩)
            clear own7 hb7 blk7 g7 gr hz
            go_wp2_with fail
            exact ⟨RL.out, by simp [intOf]; omega⟩
        · have hfin : X = (Y.map VT.nz, p', k', e') := by
            rw [HX2.out]
            obtain ⟨m, hm⟩ : ∃ m, n - j = m + 1 := ⟨n - j - 1, by omega⟩
            rw [hm, dLoop, if_pos he]
            simp
          have RL := Lib.hid (show DlsPost w db b r xs X (.returned (.slice ao Y.length c)) wq by
            rw [hfin]
            exact ⟨ao, c, Y, rfl, rfl, fun y hy => ⟨(HEL.out y hy).1, (HEL.out y hy).2.1⟩, OWN.out, by omega, HSq.out, HFq.out⟩)
          clear hfin
          go_wp2_with fail
          go_ret
          exact RL.out
      · have q1 : ¬ (j : Int) < (n : Int) := by omega
        have hfin : X = (Y.map VT.nz, p', k', e') := by
          rw [hX', show n - j = 0 by omega, dLoop]
          simp
        have RL := Lib.hid (show DlsPost w db b r xs X (.returned (.slice ao Y.length c)) wq by
          rw [hfin]
          exact ⟨ao, c, Y, rfl, rfl, fun y hy => ⟨(hel y hy).1, (hel y hy).2.1⟩, own, by omega, hSq, hFq⟩)
        clear hfin R0 hX' own hel hSq hFq hp'
        go_wp2_with fail
        go_ret
        exact RL.out
end Go.Proofs.YtnfobnnbeefeeaaGreatDoor.Wi
/- The decoder's value. -/
namespace Go.Proofs.YtnfobnnbeefeeaaGreatDoor.Wi
open Go Go.RowKit
set_option linter.unusedVariables false
set_option linter.unusedSimpArgs false
theorem dec_end {w wz : World} {db b g4 B p' k' : Nat} {r : Option Nat} {xs : List UInt8} {e' : Int} {y : VT} {X : VT × Nat × Nat × Int} (hX : X = (y.nz, p', k', e')) (hS : DcS wz db b r xs p' k' e') (hF : Fr2 w wz b db) (hy : y.At wz.heap.size wz) (hin : y.In (B ≤ ·)) (hB : g4 < B) (hwB : w.heap.size ≤ B)
    (hg4 : w.heap.size ≤ g4) (hdb : db < w.heap.size) (hb : b < w.heap.size) (hr : ∀ g, r = some g → g < w.heap.size) : DecPost w db b r xs X (.returned (.agg y.cells.toArray)) (wz.setRow g4 y.cells.toArray) := by
  subst hX
  have st : ∀ q, q ≠ g4 → (wz.setRow g4 y.cells.toArray).heap[q]? = wz.heap[q]? := fun q hq => setRow_other wz g4 q _ hq
  refine ⟨y, rfl, rfl, ?_, hin.imp fun q hq => Nat.le_trans hwB hq, hS.keep (st db (by omega)) (st b (by omega)) (fun g hg => st g (by have := hr g hg; omega)), ⟨hF.os, hF.tape, hF.output, by simpa using hF.size, fun q hq h1 h2 => (st q (by omega)).trans (hF.block q hq h1 h2)⟩⟩
  exact (hy.keepT hin (fun q _ h2 => st q (by omega))).mono (by simp)
theorem mk0_at {N : Nat} {w : World} {k n : Int} {s : List UInt8} (hk : -9223372036854775808 ≤ k ∧ k ≤ 9223372036854775807) (hn : -9223372036854775808 ≤ n ∧ n ≤ 9223372036854775807) (hs : s.length ≤ 140737488355328) : (VT.mk k n s none 0 []).At N w := by
  rw [VT.At]
  exact ⟨hk, hn, hs, by simp, fun h => absurd rfl h, by rw [AtL]; trivial⟩
theorem mk0_in {T : Nat → Prop} {k n : Int} {s : List UInt8} : (VT.mk k n s none 0 []).In T := by
  rw [VT.In]
  exact ⟨fun h => absurd rfl h, by rw [InL]; trivial⟩
theorem zag_bd {u : Nat} (h : u < 18446744073709551616) : -9223372036854775808 ≤ zag u ∧ zag u ≤ 9223372036854775807 := by unfold zag; split <;> omega
theorem rt_len (xs : List UInt8) (k : Nat) (e : Int) : (rt xs k e).1.length ≤ 4096 := by
  unfold rt nx
  have := rn_le xs k e 4096
  split
  · simp
  · split
    · simp only [List.length_take]; omega
    · simp
theorem Fr2.fr {w w' w'' : World} {b db : Nat} (h : Fr2 w w' b db) (k : Fr w' w'' b none) : Fr2 w w'' b db := h.trans (Fr2.of k)
theorem cln_atB {B : Nat} {w : World} {ao : Option Addr} {c : Nat} {Y : List VT} (h : Cln B w (VT.mk 3 0 [] none 0 Y) ao c Y) : (VT.mk 3 0 [] ao c Y).At w.heap.size w := by
  rw [VT.At]
  refine ⟨by decide, by decide, by simp, h.big, fun hl => ?_, atL_of fun y hy => (h.elems y hy).1⟩
  obtain ⟨y, Y', rfl⟩ : ∃ y Y', Y = y :: Y' := by
    cases Y with
    | nil => exact absurd rfl hl
    | cons y Y' => exact ⟨y, Y', rfl⟩
  have h0 : ∃ u, (vcs (y :: Y'))[0]? = some u := by
    cases y
    exact ⟨_, rfl⟩
  obtain ⟨u, hu⟩ := h0
  obtain ⟨g, rfl, hB, hg, _⟩ := own_cellK h.own hu
  refine ⟨_, rfl, hg, fun j v hj => ?_⟩
  obtain ⟨g', e, _, _, hc⟩ := own_cellK h.own hj
  injection e with e
  injection e with e
  rw [Addr.add_mid, Nat.zero_add, e]
  exact hc
set_option maxHeartbeats 16000000 in
set_option maxRecDepth 100000 in
theorem dec_any : ∀ f, DecAny f := by
  intro f
  induction f with
  | zero => intro d p k e w db b r xs hd hd8; omega
  | succ f ih =>
    intro d p k e w db b r xs hd hd8 hp hsz hS
    have hlt := hS.lt
    have hrl := hS.rd.rlt
    obtain ⟨w1, hw1⟩ : ∃ w1, w1 = w.alloc (.cells z4.toArray 26) := ⟨_, rfl⟩
    obtain ⟨g4, hg4⟩ : ∃ g, g = w.heap.size := ⟨_, rfl⟩
    have hb1 : Below w.heap.size w w1 := by rw [hw1]; exact (Below.refl _ _).alloc (Nat.le_refl _) _
    have n1 : w1.heap[g4]? = some (.cells z4.toArray 26 (0, 0)) := by rw [hw1, hg4]; exact heap_alloc_new _ _
    have hS1 := hS.below hb1
    have BY := rbyte_any hS1.rd hsz
    have hdv : dV xs (f + 1) d p k e = (let x := rb xs k e
      let e2 := fe x.2.2 (if 256 < p + 1 then 2 else 0)
      if x.1.toNat = 0 then (.mk 0 0 [] none 0 [], p + 1, x.2.1, e2)
      else if x.1.toNat = 1 then (.mk 1 (zag (rn xs x.2.1 e2 18446744073709551615).1) [] none 0 [], p + 1, (rn xs x.2.1 e2 18446744073709551615).2.1, (rn xs x.2.1 e2 18446744073709551615).2.2)
      else if x.1.toNat = 2 then (.mk 2 0 (rt xs x.2.1 e2).1 none 0 [], p + 1, (rt xs x.2.1 e2).2.1, fe (rt xs x.2.1 e2).2.2 (if 256 < (rt xs x.2.1 e2).1.length then 2 else 0))
      else if x.1.toNat = 3 then
        let c := rn xs x.2.1 (if 8 ≤ d then fe e2 30 else e2) 4096
        let q := dLoop (dV xs f (d + 1)) c.1 (p + 1) c.2.1 (fe c.2.2 (if 64 < c.1 then 2 else 0))
        (.mk 3 0 [] none 0 q.1, q.2)
      else (.mk (x.1.toNat : Int) 0 [] none 0 [], p + 1, x.2.1, fe e2 9)) := by rw [dV]
    obtain ⟨X, hX⟩ : ∃ X, X = dV xs (f + 1) d p k e := ⟨_, rfl⟩
    rw [← hX] at hdv ⊢
    clear hX
    obtain ⟨x, hx⟩ : ∃ x, x = rb xs k e := ⟨_, rfl⟩
    rw [← hx] at BY hdv
    clear hx
    obtain ⟨bt, k1, e1⟩ := x
    dsimp only at BY hdv
    have hbt := bt.toNat_lt
    obtain ⟨kb, hkb⟩ : ∃ kb, kb = bt.toNat := ⟨_, rfl⟩
    unfold bv at BY
    rw [← hkb] at BY hdv hbt
    clear hkb
    have AM := Lib.hid (fun W => atMost_any ((p : Int) + 1) 256 W)
    have ham : (if (256 : Int) < (p : Int) + 1 then (2 : Int) else 0) = (if 256 < p + 1 then 2 else 0) := by
      by_cases h : 256 < p + 1
      · rw [if_pos h, if_pos (by omega)]
      · rw [if_neg h, if_neg (by omega)]
    rw [ham] at AM
    obtain ⟨a, ha⟩ : ∃ a : Int, a = (if 256 < p + 1 then 2 else 0) := ⟨_, rfl⟩
    rw [← ha] at AM hdv
    obtain ⟨e2, he2⟩ : ∃ e2, e2 = fe e1 a := ⟨_, rfl⟩
    rw [← he2] at hdv
    have HDV := Lib.hid hdv
    have HE2 := Lib.hid he2
    have HA := Lib.hid ha
    have HBY := Lib.hid BY
    have HS1 := Lib.hid hS1
    have N1 := Lib.hid n1
    have HB1 := Lib.hid hb1
    have HW1 := Lib.hid (show w1 = w.alloc (.cells #[.int .i64 0, .int .i64 0, .string ⟨#[]⟩, .slice none 0 0] 26) from hw1)
    have HG4 := Lib.hid hg4
    have HLT := Lib.hid (show db < w.heap.size ∧ b < w.heap.size ∧ w.heap.size ≤ g4 ∧ g4 < w1.heap.size from ⟨hlt.1, hlt.2, by omega, lt_of_rowK n1⟩)
    have HRL := Lib.hid hrl
    have SB := Lib.hid (show (Tryz.prog.info? 26).map (·.size) = some (#[.int .i64 (kb : Int), .int .i64 0, .string ⟨#[]⟩, .slice none 0 0] : Array Value).size by kernel_rfl)
    have IH := Lib.hid ih
    have c10 := hS1.c0
    clear hlt hrl hw1 hg4 hb1 n1 hS1 BY hdv ham ha he2 hS ih
    go_enter Tryz.func140, Tryz.ntmps140
    go_upto_region 1 with fail
    rw [← HW1.out, ← HG4.out]
    go_upto_region 2 with (go_at_call 112; refine HBY.out.mono ?_)
    rintro q w2 ⟨rfl, hr2, hf2⟩
    have hS2 := HS1.out.call hf2 hr2
    obtain ⟨w3, hw3⟩ : ∃ w3, w3 = w2.alloc (.cells #[.int .i64 (kb : Int), .int .i64 0, .string ⟨#[]⟩, .slice none 0 0] 26) := ⟨_, rfl⟩
    obtain ⟨g5, hg5⟩ : ∃ g, g = w2.heap.size := ⟨_, rfl⟩
    have hb3 : Below w2.heap.size w2 w3 := by rw [hw3]; exact (Below.refl _ _).alloc (Nat.le_refl _) _
    have n5 : w3.heap[g5]? = some (.cells #[.int .i64 (kb : Int), .int .i64 0, .string ⟨#[]⟩, .slice none 0 0] 26 (0, 0)) := by rw [hw3, hg5]; exact heap_alloc_new _ _
    have hs12 := hf2.size
    have hl := HLT.out
    have hs01 := HB1.out.size
    have n42 := (hf2.block g4 hl.2.2.2 (by omega) (fun e => by cases e)).trans N1.out
    have n43 := (hb3.block g4 (by omega)).trans n42
    have hS3 := hS2.below hb3
    have hF3 : Fr2 w w3 b db := (Fr2.ofB HB1.out).trans ((Fr2.of hf2).trans (Fr2.ofB hb3))
    have c31 := hS3.c1
    have f31 : w3.frozen? ⟨db, 1, none⟩ = false := frozen_of_row w3 db 1 _ _ hS3.row
    obtain ⟨w4, hw4⟩ : ∃ w4, w4 = w3.setCell ⟨db, 1, none⟩ (.int .i64 ((p : Int) + 1)) := ⟨_, rfl⟩
    have st4 : ∀ q, q ≠ db → w4.heap[q]? = w3.heap[q]? := fun q hq => by rw [hw4]; exact Below.heap_setCell w3 ⟨db, 1, none⟩ _ q hq
    have sz4 : w4.heap.size = w3.heap.size := by rw [hw4]; simp [World.setCell]
    have hne := hS3.ne
    have hnr := hS3.nr
    have hS4 : DcS w4 db b r xs (p + 1) k1 e1 := ⟨by rw [hw4]; exact Go.Joins.block_setCell (i := 1) hS3.row _, hS3.rd.keep (st4 b (Ne.symm hne)) (fun g hg => st4 g (hnr g hg)), hne, hnr⟩
    have z0 := (Below.refl 0 w3).setCell (p := ⟨db, 1, none⟩) (Nat.zero_le _) (.int .i64 ((p : Int) + 1))
    rw [← hw4] at z0
    have hF4 : Fr2 w w4 b db := hF3.trans ⟨z0.os, z0.tape, z0.output, by omega, fun q _ _ h2 => st4 q h2⟩
    have hg5l : g5 < w3.heap.size := lt_of_rowK n5
    have n44 := (st4 g4 (by omega)).trans n43
    have n54 := (st4 g5 (by omega)).trans n5
    have c40 := hS4.c0
    have c41 : w4.cell? ⟨db, 1, none⟩ = some (.int .i64 ((p : Int) + 1)) := hS4.c1
    have HW3 := Lib.hid hw3
    have HG5 := Lib.hid hg5
    have HW4 := Lib.hid hw4
    have HS4 := Lib.hid hS4
    have HF4 := Lib.hid hF4
    have N44 := Lib.hid n44
    have N54 := Lib.hid n54
    have HG5L := Lib.hid (show g4 < g5 ∧ g5 < w4.heap.size ∧ w1.heap.size ≤ g5 ∧ w1.heap.size ≤ w4.heap.size from ⟨by omega, by omega, by omega, by omega⟩)
    have c30 := hS3.c0
    clear hr2 hf2 hS2 hw3 hg5 hb3 n5 hs12 hl hs01 n42 n43 hS3 hF3 hw4 st4 sz4 hne hnr hS4 z0 hF4 hg5l n44 n54 c10
    go_upto_region 2 with (with_reducible show wpList _ _ _ _ _ _; refine wpList_store_newW rfl 26 (.tmp 5) (.tmp 12) rfl 26 _ #[.int .i64 (kb : Int), .int .i64 0, .string ⟨#[]⟩, .slice none 0 0] rfl rfl SB.out rfl rfl ?_)
    rw [← HW3.out, ← HG5.out]
    go_upto_region 3 with fail
    rw [← HW4.out]
    clear c31 f31 c30
    (refine wp_region_quiet_tail 9 (by kernel_rfl) (by kernel_rfl) ?_; simp only [List.take_succ_cons, List.take_zero, List.drop_succ_cons, List.drop_zero]; (repeat (go_big_quiet_step ((go_at_call 135; exact Calls.quiet_of_same (AM.out _))))); refine wpQuiet_nil ?_; intro _ hw'; obtain ⟨nq, hw''⟩ := hw'; subst hw'')
    have FA := Lib.hid (fail_any (HS4.out.below (below_drewG (Below.refl _ _) nq)).rd a)
    go_upto_region 4 with (go_at_call 111; refine FA.out.mono ?_)
    rintro q w5 ⟨rfl, hr5, hf5⟩
    have hd4 : Below w4.heap.size w4 (w4.drewN nq) := below_drewG (Below.refl _ _) nq
    have hS5 : DcS w5 db b r xs (p + 1) k1 e2 := by rw [HE2.out]; exact (HS4.out.below hd4).call hf5 hr5
    have hF5 : Fr2 w w5 b db := HF4.out.trans ((Fr2.ofB hd4).trans (Fr2.of hf5))
    have hgl := HG5L.out
    have hl := HLT.out
    have n45 : w5.heap[g4]? = some (.cells z4.toArray 26 (0, 0)) := (hf5.block g4 (by show g4 < w4.heap.size; omega) (by omega) (fun e => by cases e)).trans N44.out
    have n55 : w5.heap[g5]? = some (.cells #[.int .i64 (kb : Int), .int .i64 0, .string ⟨#[]⟩, .slice none 0 0] 26 (0, 0)) := (hf5.block g5 (by show g5 < w4.heap.size; omega) (by omega) (fun e => by cases e)).trans N54.out
    have d0 : w5.cell? ⟨g5, 0, none⟩ = some (.int .i64 (kb : Int)) := by rw [cell_of_rowW w5 g5 0 _ _ _ n55]; rfl
    have c50 := hS5.c0
    have hs45 := hf5.size
    have HS5 := Lib.hid hS5
    have HF5 := Lib.hid hF5
    have N45 := Lib.hid n45
    have N55 := Lib.hid n55
    have HZ5 := Lib.hid (show g5 < w5.heap.size ∧ w.heap.size ≤ w5.heap.size from ⟨lt_of_rowK n55, hF5.size⟩)
    clear hr5 hf5 hd4 hS5 hF5 hgl hl n45 n55 hs45 FA c40 c41
    by_cases h0 : kb = 0
    · subst h0
      have hdv := HDV.out
      rw [if_pos rfl] at hdv
      have hz5 : w5.heap[g5]? = some (.cells (VT.mk 0 0 [] none 0 []).cells.toArray 26 (0, 0)) := N55.out
      have hz4 := N45.out
      have hSz := HS5.out
      have hFz := HF5.out
      have hyat : (VT.mk 0 0 [] none 0 []).At w5.heap.size w5 := mk0_at (by decide) (by decide) (by decide)
      have hyin : (VT.mk 0 0 [] none 0 []).In (w5.heap.size ≤ ·) := mk0_in
      have hXX : X = ((VT.mk 0 0 [] none 0 []).nz, p + 1, k1, e2) := hdv
      clear hdv c50
      rw [show ((0 : Nat) : Int) = 0 from rfl] at d0
      obtain ⟨CC, hCC⟩ : ∃ CC : VT, CC = VT.mk 0 0 [] none 0 [] := ⟨_, rfl⟩
      rw [← hCC] at hz5 hyat hyin hXX
      have KZ := Lib.hid (rowK hz5)
      have N4Z := Lib.hid hz4
      have hl := HLT.out
      have hgl := HG5L.out
      have RL := Lib.hid (dec_end hXX hSz hFz hyat hyin (show g4 < w5.heap.size by have := HZ5.out; omega) HZ5.out.2 hl.2.2.1 hl.1 hl.2.1 HRL.out)
      clear hCC hz5 hyat hyin hXX hz4 hSz hFz hl hgl
      go_wp2_with (first
        | (with_reducible show wpList _ _ _ _ _ _; refine wpList_load_allW rfl 26 (.tmp 5) rfl ⟨g5,0,none⟩ rfl CC.cells _ KZ.out Tryz.underlying26 rfl (Tryz.valSize CC) ?_)
        | (with_reducible show wpList _ _ _ _ _ _; refine wpList_store_whole rfl 26 (.tmp 4) (.tmp 70) rfl g4 26 z4.toArray CC.cells.toArray rfl rfl N4Z.out (Tryz.valSize' CC) (VT.fourZ CC) CC.cells_one ?_))
      refine bodyPost_ret (results_cell_row rfl _ _ g4 26 CC.cells.toArray (0, 0) _ rfl (setRow_heap _ g4 _ _ _ _ N4Z.out) Tryz.underlying26 rfl (Tryz.valSize' CC)) rfl ?_
      exact RL.out
    have HD1 := Lib.hid (HDV.out.trans (if_neg h0))
    by_cases h1 : kb = 1
    · subst h1
      have hdv := HD1.out
      rw [if_pos rfl] at hdv
      have RI := rint_any HS5.out.rd hsz
      have hlt := rn_lt xs k1 e2 18446744073709551615
      obtain ⟨R, hR⟩ : ∃ R, R = rn xs k1 e2 18446744073709551615 := ⟨_, rfl⟩
      rw [← hR] at RI hdv hlt
      obtain ⟨u, k3, e3⟩ := R
      dsimp only at hdv hlt
      have HRI := Lib.hid RI
      have HDD := Lib.hid hdv
      clear RI hR hdv
      rw [show ((1 : Nat) : Int) = 1 from rfl] at d0
      go_upto_region 8 with fail
      go_wp2_with fail
      refine HRI.out.mono ?_
      rintro q w6 ⟨rfl, hr6, hf6⟩
      dsimp only at hr6
      have hl := HLT.out
      have hgl := HG5L.out
      have n56 := (hf6.block g5 HZ5.out.1 (by omega) (fun e => by cases e)).trans N55.out
      have n46 := (hf6.block g4 (by have := HZ5.out; omega) (by omega) (fun e => by cases e)).trans N45.out
      have d61 : w6.cell? ⟨g5, 1, none⟩ = some (.int .i64 0) := by rw [cell_of_rowW w6 g5 1 _ _ _ n56]; rfl
      have f61 : w6.frozen? ⟨g5, 1, none⟩ = false := frozen_of_row w6 g5 1 _ _ n56
      obtain ⟨wz, hwz⟩ : ∃ wz, wz = w6.setCell ⟨g5, 1, none⟩ (.int .i64 (zag u)) := ⟨_, rfl⟩
      have st : ∀ q, q ≠ g5 → wz.heap[q]? = w6.heap[q]? := fun q hq => by rw [hwz]; exact Below.heap_setCell w6 ⟨g5, 1, none⟩ _ q hq
      have z0 := (Below.refl 0 w6).setCell (p := ⟨g5, 1, none⟩) (Nat.zero_le _) (.int .i64 (zag u))
      rw [← hwz] at z0
      have hz5 : wz.heap[g5]? = some (.cells (VT.mk 1 (zag u) [] none 0 []).cells.toArray 26 (0, 0)) := by rw [hwz]; exact Go.Joins.block_setCell (i := 1) n56 _
      have hz4 := (st g4 (by omega)).trans n46
      have hS6 := HS5.out.call hf6 hr6
      have hSz : DcS wz db b r xs (p + 1) k3 e3 := hS6.keep (st db (by omega)) (st b (by omega)) (fun g hg => st g (by have := HRL.out g hg; omega))
      have hF6 := HF5.out.fr hf6
      have hFz : Fr2 w wz b db := ⟨z0.os.trans hF6.os, z0.tape.trans hF6.tape, z0.output.trans hF6.output, Nat.le_trans hF6.size z0.size, fun q hq h1 h2 => (st q (by omega)).trans (hF6.block q hq h1 h2)⟩
      have hyat : (VT.mk 1 (zag u) [] none 0 []).At wz.heap.size wz := mk0_at (by decide) (zag_bd hlt) (by decide)
      have hyin : (VT.mk 1 (zag u) [] none 0 []).In (w5.heap.size ≤ ·) := mk0_in
      have hXX : X = ((VT.mk 1 (zag u) [] none 0 []).nz, p + 1, k3, e3) := HDD.out
      have HWZ := Lib.hid hwz
      clear hl hgl n56 n46 hr6 hf6 hwz st z0 hS6 hF6
      go_upto_region 14 with fail
      rw [← HWZ.out]
      obtain ⟨CC, hCC⟩ : ∃ CC : VT, CC = VT.mk 1 (zag u) [] none 0 [] := ⟨_, rfl⟩
      rw [← hCC] at hz5 hyat hyin hXX
      have KZ := Lib.hid (rowK hz5)
      have N4Z := Lib.hid hz4
      have hl := HLT.out
      have hgl := HG5L.out
      have RL := Lib.hid (dec_end hXX hSz hFz hyat hyin (show g4 < w5.heap.size by have := HZ5.out; omega) HZ5.out.2 hl.2.2.1 hl.1 hl.2.1 HRL.out)
      clear hCC hz5 hyat hyin hXX hz4 hSz hFz hl hgl
      go_wp2_with (first
        | (with_reducible show wpList _ _ _ _ _ _; refine wpList_load_allW rfl 26 (.tmp 5) rfl ⟨g5,0,none⟩ rfl CC.cells _ KZ.out Tryz.underlying26 rfl (Tryz.valSize CC) ?_)
        | (with_reducible show wpList _ _ _ _ _ _; refine wpList_store_whole rfl 26 (.tmp 4) (.tmp 70) rfl g4 26 z4.toArray CC.cells.toArray rfl rfl N4Z.out (Tryz.valSize' CC) (VT.fourZ CC) CC.cells_one ?_))
      refine bodyPost_ret (results_cell_row rfl _ _ g4 26 CC.cells.toArray (0, 0) _ rfl (setRow_heap _ g4 _ _ _ _ N4Z.out) Tryz.underlying26 rfl (Tryz.valSize' CC)) rfl ?_
      exact RL.out
    have HD2 := Lib.hid (HD1.out.trans (if_neg h1))
    by_cases h2 : kb = 2
    · subst h2
      have hdv := HD2.out
      rw [if_pos rfl] at hdv
      have RI := rtext_any HS5.out.rd hsz
      have hlt := rt_len xs k1 e2
      obtain ⟨R, hR⟩ : ∃ R, R = rt xs k1 e2 := ⟨_, rfl⟩
      rw [← hR] at RI hdv hlt
      obtain ⟨u, k3, e3⟩ := R
      dsimp only at hdv hlt
      have hus := str_sizeX u
      have AM6 := Lib.hid (fun W => atMost_any (u.length : Int) 256 W)
      have ham : (if (256 : Int) < (u.length : Int) then (2 : Int) else 0) = (if 256 < u.length then 2 else 0) := by
        by_cases h : 256 < u.length
        · rw [if_pos h, if_pos (by omega)]
        · rw [if_neg h, if_neg (by omega)]
      rw [ham] at AM6
      obtain ⟨a6, ha6⟩ : ∃ a : Int, a = (if 256 < u.length then 2 else 0) := ⟨_, rfl⟩
      rw [← ha6] at AM6 hdv
      obtain ⟨U, hU⟩ : ∃ U, U = str u := ⟨_, rfl⟩
      have HRI := Lib.hid (show Calls _ _ _ _ (fun e w' => e = .returned (.string U) ∧ Rd w' b r xs k3 e3 ∧ Fr w5 w' b none) by rw [hU]; exact RI)
      have HDD := Lib.hid hdv
      rw [← hU] at hus
      have HUS := Lib.hid hus
      have HU := Lib.hid hU
      clear RI hR hdv ham ha6 hus hU
      rw [← HUS.out] at AM6
      rw [show ((2 : Nat) : Int) = 2 from rfl] at d0
      go_upto_region 10 with fail
      go_upto_region 11 with (go_at_call 113; refine HRI.out.mono ?_)
      rintro q w6 ⟨rfl, hr6, hf6⟩
      have hl := HLT.out
      have hgl := HG5L.out
      have n56 := (hf6.block g5 HZ5.out.1 (by omega) (fun e => by cases e)).trans N55.out
      have n46 := (hf6.block g4 (by have := HZ5.out; omega) (by omega) (fun e => by cases e)).trans N45.out
      have d62 : w6.cell? ⟨g5, 2, none⟩ = some (.string ⟨#[]⟩) := by rw [cell_of_rowW w6 g5 2 _ _ _ n56]; rfl
      have f62 : w6.frozen? ⟨g5, 2, none⟩ = false := frozen_of_row w6 g5 2 _ _ n56
      obtain ⟨wy, hwy⟩ : ∃ wz, wz = w6.setCell ⟨g5, 2, none⟩ (.string U) := ⟨_, rfl⟩
      have st : ∀ q, q ≠ g5 → wy.heap[q]? = w6.heap[q]? := fun q hq => by rw [hwy]; exact Below.heap_setCell w6 ⟨g5, 2, none⟩ _ q hq
      have z0 := (Below.refl 0 w6).setCell (p := ⟨g5, 2, none⟩) (Nat.zero_le _) (.string U)
      rw [← hwy] at z0
      have hz5y : wy.heap[g5]? = some (.cells (VT.mk 2 0 u none 0 []).cells.toArray 26 (0, 0)) := by rw [hwy, HU.out]; exact Go.Joins.block_setCell (i := 2) n56 _
      have hz4y := (st g4 (by omega)).trans n46
      have hS6 := HS5.out.call hf6 hr6
      have hSy : DcS wy db b r xs (p + 1) k3 e3 := hS6.keep (st db (by omega)) (st b (by omega)) (fun g hg => st g (by have := HRL.out g hg; omega))
      have hF6 := HF5.out.fr hf6
      have hFy : Fr2 w wy b db := ⟨z0.os.trans hF6.os, z0.tape.trans hF6.tape, z0.output.trans hF6.output, Nat.le_trans hF6.size z0.size, fun q hq h1 h2 => (st q (by omega)).trans (hF6.block q hq h1 h2)⟩
      have cy0 := hSy.c0
      have cy2 : wy.cell? ⟨g5, 2, none⟩ = some (.string U) := by rw [cell_of_rowW wy g5 2 _ _ _ hz5y, HU.out]; rfl
      have HWY := Lib.hid hwy
      have HSY := Lib.hid hSy
      have HFY := Lib.hid hFy
      have HZ5Y := Lib.hid hz5y
      have HZ4Y := Lib.hid hz4y
      clear hl hgl n56 n46 hr6 hf6 hwy st z0 hS6 hF6 hSy hFy hz5y hz4y
      go_upto_region 11 with fail
      rw [← HWY.out]
      clear d62 f62
      (refine wp_region_quiet_tail 8 (by kernel_rfl) (by kernel_rfl) ?_; simp only [List.take_succ_cons, List.take_zero, List.drop_succ_cons, List.drop_zero]; (repeat (go_big_quiet_step ((go_at_call 135; exact Calls.quiet_of_same (AM6.out _))))); refine wpQuiet_nil ?_; intro _ hw'; obtain ⟨nq, hw''⟩ := hw'; subst hw'')
      have FA := Lib.hid (fail_any (HSY.out.below (below_drewG (Below.refl _ _) nq)).rd a6)
      go_upto_region 14 with (go_at_call 111; refine FA.out.mono ?_)
      rintro q wz ⟨rfl, hrz, hfz⟩
      have hdy : Below wy.heap.size wy (wy.drewN nq) := below_drewG (Below.refl _ _) nq
      have hl := HLT.out
      have hgl := HG5L.out
      have hSz := (HSY.out.below hdy).call hfz hrz
      have hFz : Fr2 w wz b db := HFY.out.trans ((Fr2.ofB hdy).trans (Fr2.of hfz))
      have hz5 := (hfz.block g5 (lt_of_rowK HZ5Y.out) (by omega) (fun e => by cases e)).trans HZ5Y.out
      have hz4 := (hfz.block g4 (lt_of_rowK HZ4Y.out) (by omega) (fun e => by cases e)).trans HZ4Y.out
      have hyat : (VT.mk 2 0 u none 0 []).At wz.heap.size wz := mk0_at (by decide) (by decide) (by omega)
      have hyin : (VT.mk 2 0 u none 0 []).In (w5.heap.size ≤ ·) := mk0_in
      have hXX : X = ((VT.mk 2 0 u none 0 []).nz, p + 1, k3, fe e3 a6) := HDD.out
      clear hl hgl hrz hfz hdy cy0 cy2 FA
      obtain ⟨CC, hCC⟩ : ∃ CC : VT, CC = VT.mk 2 0 u none 0 [] := ⟨_, rfl⟩
      rw [← hCC] at hz5 hyat hyin hXX
      have KZ := Lib.hid (rowK hz5)
      have N4Z := Lib.hid hz4
      have hl := HLT.out
      have hgl := HG5L.out
      have RL := Lib.hid (dec_end hXX hSz hFz hyat hyin (show g4 < w5.heap.size by have := HZ5.out; omega) HZ5.out.2 hl.2.2.1 hl.1 hl.2.1 HRL.out)
      clear hCC hz5 hyat hyin hXX hz4 hSz hFz hl hgl
      go_wp2_with (first
        | (with_reducible show wpList _ _ _ _ _ _; refine wpList_load_allW rfl 26 (.tmp 5) rfl ⟨g5,0,none⟩ rfl CC.cells _ KZ.out Tryz.underlying26 rfl (Tryz.valSize CC) ?_)
        | (with_reducible show wpList _ _ _ _ _ _; refine wpList_store_whole rfl 26 (.tmp 4) (.tmp 70) rfl g4 26 z4.toArray CC.cells.toArray rfl rfl N4Z.out (Tryz.valSize' CC) (VT.fourZ CC) CC.cells_one ?_))
      refine bodyPost_ret (results_cell_row rfl _ _ g4 26 CC.cells.toArray (0, 0) _ rfl (setRow_heap _ g4 _ _ _ _ N4Z.out) Tryz.underlying26 rfl (Tryz.valSize' CC)) rfl ?_
      exact RL.out
    have HD3 := Lib.hid (HD2.out.trans (if_neg h2))
    by_cases h3 : kb = 3
    · subst h3
      have hdv := HD3.out
      rw [if_pos rfl] at hdv
      have he2 : e2 = 0 → p + 1 ≤ 256 := fun h => by
        have h2 := HE2.out.symm.trans h
        have := (fe_ok h2).2
        rw [HA.out] at this
        exact over_ok this
      have DL := decList_any f IH.out d (p + 1) k1 e2 w5 db b r xs (by omega) he2 hsz HS5.out
      obtain ⟨L, hL⟩ : ∃ L, L = dLoop (dV xs f (d + 1)) (rn xs k1 (if 8 ≤ d then fe e2 30 else e2) 4096).1 (p + 1) (rn xs k1 (if 8 ≤ d then fe e2 30 else e2) 4096).2.1 (fe (rn xs k1 (if 8 ≤ d then fe e2 30 else e2) 4096).2.2 (if 64 < (rn xs k1 (if 8 ≤ d then fe e2 30 else e2) 4096).1 then 2 else 0)) := ⟨_, rfl⟩
      rw [← hL] at DL
      have hdd : X = (.mk 3 0 [] none 0 L.1, L.2) := by rw [hL]; exact hdv
      have HDL := Lib.hid DL
      have HDD := Lib.hid hdd
      clear DL hL hdv hdd he2
      rw [show ((3 : Nat) : Int) = 3 from rfl] at d0
      go_upto_region 13 with fail
      go_wp2_with fail
      refine HDL.out.mono ?_
      rintro q w6 ⟨la, lc, Y, rfl, hYn, hYe, hYo, hYl, hS6, hF6⟩
      have hl := HLT.out
      have hgl := HG5L.out
      have n56 := (hF6.block g5 HZ5.out.1 (by omega) (by omega)).trans N55.out
      have n46 := (hF6.block g4 (by have := HZ5.out; omega) (by omega) (by omega)).trans N45.out
      have d63 : w6.cell? ⟨g5, 3, none⟩ = some (.slice none 0 0) := by rw [cell_of_rowW w6 g5 3 _ _ _ n56]; rfl
      have f63 : w6.frozen? ⟨g5, 3, none⟩ = false := frozen_of_row w6 g5 3 _ _ n56
      obtain ⟨wz, hwz⟩ : ∃ wz, wz = w6.setCell ⟨g5, 3, none⟩ (.slice la Y.length lc) := ⟨_, rfl⟩
      have st : ∀ q, q ≠ g5 → wz.heap[q]? = w6.heap[q]? := fun q hq => by rw [hwz]; exact Below.heap_setCell w6 ⟨g5, 3, none⟩ _ q hq
      have z0 := (Below.refl 0 w6).setCell (p := ⟨g5, 3, none⟩) (Nat.zero_le _) (.slice la Y.length lc)
      rw [← hwz] at z0
      have szz : wz.heap.size = w6.heap.size := by rw [hwz]; simp [World.setCell]
      have hz5 : wz.heap[g5]? = some (.cells (VT.mk 3 0 [] la lc Y).cells.toArray 26 (0, 0)) := by rw [hwz]; exact Go.Joins.block_setCell (i := 3) n56 _
      have hz4 := (st g4 (by omega)).trans n46
      have hSz : DcS wz db b r xs L.2.1 L.2.2.1 L.2.2.2 := hS6.keep (st db (by omega)) (st b (by omega)) (fun g hg => st g (by have := HRL.out g hg; omega))
      have hF6' := HF5.out.trans hF6
      have hFz : Fr2 w wz b db := ⟨z0.os.trans hF6'.os, z0.tape.trans hF6'.tape, z0.output.trans hF6'.output, Nat.le_trans hF6'.size z0.size, fun q hq h1 h2 => (st q (by omega)).trans (hF6'.block q hq h1 h2)⟩
      have hcl : Cln w5.heap.size w6 (VT.mk 3 0 [] none 0 Y) la lc Y := ⟨rfl, hYe, hYo, by omega⟩
      have hyin : (VT.mk 3 0 [] la lc Y).In (w5.heap.size ≤ ·) := cln_in hcl
      have hyat6 : (VT.mk 3 0 [] la lc Y).At w6.heap.size w6 := cln_atB hcl
      have hyat : (VT.mk 3 0 [] la lc Y).At wz.heap.size wz := by
        rw [szz]
        exact hyat6.keepT hyin (fun q _ h2 => st q (by have := HZ5.out; omega))
      have hXX : X = ((VT.mk 3 0 [] la lc Y).nz, L.2.1, L.2.2.1, L.2.2.2) := by
        rw [HDD.out]
        congr 1
        rw [VT.nz, nzL_map, hYn]
        rfl
      have HWZ := Lib.hid hwz
      clear hcl hyat6 hl hgl n56 n46 hwz st z0 szz hS6 hF6 hF6' hYn hYe hYo
      go_upto_region 14 with fail
      rw [← HWZ.out]
      obtain ⟨CC, hCC⟩ : ∃ CC : VT, CC = VT.mk 3 0 [] la lc Y := ⟨_, rfl⟩
      rw [← hCC] at hz5 hyat hyin hXX
      have KZ := Lib.hid (rowK hz5)
      have N4Z := Lib.hid hz4
      have hl := HLT.out
      have hgl := HG5L.out
      have RL := Lib.hid (dec_end hXX hSz hFz hyat hyin (show g4 < w5.heap.size by have := HZ5.out; omega) HZ5.out.2 hl.2.2.1 hl.1 hl.2.1 HRL.out)
      clear hCC hz5 hyat hyin hXX hz4 hSz hFz hl hgl
      go_wp2_with (first
        | (with_reducible show wpList _ _ _ _ _ _; refine wpList_load_allW rfl 26 (.tmp 5) rfl ⟨g5,0,none⟩ rfl CC.cells _ KZ.out Tryz.underlying26 rfl (Tryz.valSize CC) ?_)
        | (with_reducible show wpList _ _ _ _ _ _; refine wpList_store_whole rfl 26 (.tmp 4) (.tmp 70) rfl g4 26 z4.toArray CC.cells.toArray rfl rfl N4Z.out (Tryz.valSize' CC) (VT.fourZ CC) CC.cells_one ?_))
      refine bodyPost_ret (results_cell_row rfl _ _ g4 26 CC.cells.toArray (0, 0) _ rfl (setRow_heap _ g4 _ _ _ _ N4Z.out) Tryz.underlying26 rfl (Tryz.valSize' CC)) rfl ?_
      exact RL.out
    have HD4 := Lib.hid (HD3.out.trans (if_neg h3))
    have hk0 : ¬ (kb : Int) = 0 := by omega
    have hk1 : ¬ (kb : Int) = 1 := by omega
    have hk2 : ¬ (kb : Int) = 2 := by omega
    have hk3 : ¬ (kb : Int) = 3 := by omega
    have FA := Lib.hid (fail_any HS5.out.rd 9)
    go_upto_region 14 with (go_at_call 111; refine FA.out.mono ?_)
    rintro q wz ⟨rfl, hrz, hfz⟩
    have hl := HLT.out
    have hgl := HG5L.out
    have hSz := HS5.out.call hfz hrz
    have hFz := HF5.out.fr hfz
    have hz5 : wz.heap[g5]? = some (.cells (VT.mk (kb : Int) 0 [] none 0 []).cells.toArray 26 (0, 0)) := (hfz.block g5 HZ5.out.1 (by omega) (fun e => by cases e)).trans N55.out
    have hz4 := (hfz.block g4 (by have := HZ5.out; omega) (by omega) (fun e => by cases e)).trans N45.out
    have hyat : (VT.mk (kb : Int) 0 [] none 0 []).At wz.heap.size wz := mk0_at (by omega) (by decide) (by decide)
    have hyin : (VT.mk (kb : Int) 0 [] none 0 []).In (w5.heap.size ≤ ·) := mk0_in
    have hXX : X = ((VT.mk (kb : Int) 0 [] none 0 []).nz, p + 1, k1, fe e2 9) := by
      rw [HD4.out, VT.nz]
      simp [hk3]
    clear hl hgl hrz hfz FA
    obtain ⟨CC, hCC⟩ : ∃ CC : VT, CC = VT.mk (kb : Int) 0 [] none 0 [] := ⟨_, rfl⟩
    rw [← hCC] at hz5 hyat hyin hXX
    have KZ := Lib.hid (rowK hz5)
    have N4Z := Lib.hid hz4
    have hl := HLT.out
    have hgl := HG5L.out
    have RL := Lib.hid (dec_end hXX hSz hFz hyat hyin (show g4 < w5.heap.size by have := HZ5.out; omega) HZ5.out.2 hl.2.2.1 hl.1 hl.2.1 HRL.out)
    clear hCC hz5 hyat hyin hXX hz4 hSz hFz hl hgl
    go_wp2_with (first
      | (with_reducible show wpList _ _ _ _ _ _; refine wpList_load_allW rfl 26 (.tmp 5) rfl ⟨g5,0,none⟩ rfl CC.cells _ KZ.out Tryz.underlying26 rfl (Tryz.valSize CC) ?_)
      | (with_reducible show wpList _ _ _ _ _ _; refine wpList_store_whole rfl 26 (.tmp 4) (.tmp 70) rfl g4 26 z4.toArray CC.cells.toArray rfl rfl N4Z.out (Tryz.valSize' CC) (VT.fourZ CC) CC.cells_one ?_))
    refine bodyPost_ret (results_cell_row rfl _ _ g4 26 CC.cells.toArray (0, 0) _ rfl (setRow_heap _ g4 _ _ _ _ N4Z.out) Tryz.underlying26 rfl (Tryz.valSize' CC)) rfl ?_
    exact RL.out
end Go.Proofs.YtnfobnnbeefeeaaGreatDoor.Wi
