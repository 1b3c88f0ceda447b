/- A region that draws its order: operations that only make values, and some that turn memory, told by a parameter: of no program. -/
import Derived.Test.YtdjpeebekpjiiaaJ0K
import Derived.Test.YtdjpeebekpjiiaaJ0P
import Derived.Test.YtdjpeebekpjiiaaJ0C
import Derived.Test.YtdjpeebekpjiiaaPw
namespace Go.Proofs.Ytdjpeebekpjiiaa
open Go
section
variable {P : Program} {ops : Array Oper} {Q : Exit → Act → World → Prop}
theorem wp_region_par {α : Type} {id : Nat} {a : Act} {w : World} (hm : P.follows .mixedOrders = true) (hback : backOkG ops = true) (hg : ops.all (fun o => o.guard.isNone) = true) (mk : (Nat → Value) → Act) (F : α → Nat → Value → Prop) (I : (Nat → Bool) → α → World → Prop) (src : Nat → Bool) (later : Nat → Nat → Bool)
    (hlater : ∀ i j o, src i = true → later i j = true → ops[j]? = some o → ∃ e ∈ o.after, Region.binds .any e = true ∧ (e.on = i ∨ later i e.on = true))
    (hq : ∀ i o, src i = false → ops[i]? = some o → ∀ (L : Nat → Bool) (p : α) (x : Nat → Value) (w : World), (∀ e ∈ o.after, Region.binds .any e = true → F p e.on (x e.on)) → L i = false → I L p w →
      ∃ v, (execOp (mk x).eval o).run P w = .ok (.value v) w ∧ (mk x).put o.dst v = mk (upd x i v) ∧ F p i v ∧ I (upd L i true) p w)
    (hs : ∀ i o, src i = true → ops[i]? = some o → ∀ (L : Nat → Bool) (p : α) (x : Nat → Value) (w : World), (∀ e ∈ o.after, Region.binds .any e = true → L e.on = true ∧ F p e.on (x e.on)) → L i = false → (∀ j, later i j = true → L j = false) → I L p w →
      o.wp P (mk x) w (fun a' w' => ∃ v p', a' = mk (upd x i v) ∧ F p' i v ∧ (∀ j q, j ≠ i → later i j = false → F p j q → F p' j q) ∧ I (upd L i true) p' w') Q)
    (hend : ∀ L p x w, (∀ j, j < ops.size → L j = true ∧ F p j (x j)) → I L p w → Q .normal (mk x) w)
    (x0 : Nat → Value) (p0 : α) (h0 : a = mk x0) (hI : I (fun _ => false) p0 w.drew) : (Code.region id ops true).wp P Q a w := by
  refine wp_region_slotsJ hm hback mk (fun L x w => (∀ i j, src i = true → later i j = true → j < ops.size → L j = true → L i = true) ∧ (∀ j, L j = true → j < ops.size) ∧ ∃ p, I L p w ∧ ∀ j, L j = true → F p j (x j)) ?_ ?_ x0 h0 ⟨(fun i j _ _ _ h => by cases h), (fun j h => by cases h), p0, hI, fun j h => by cases h⟩
  · rintro i o ho L x w hd hi ⟨hc, hsz, p, hIp, hF⟩
    have hgd : o.guard = none := by
      have h := Array.all_eq_true'.1 hg o (Array.mem_of_getElem? ho)
      simpa using h
    have hilt : i < ops.size := (Array.getElem?_eq_some_iff.1 ho).1
    have hwant : ∀ t, Region.wanted o t = true := fun t => by unfold Region.wanted; rw [hgd]
    have hcl : ∀ i' j, src i' = true → later i' j = true → j < ops.size → upd L i true j = true → upd L i true i' = true := by
      intro i' j hs' hl hj hL
      by_cases hii : i' = i
      · rw [hii, upd_self]
      · rw [upd_ne _ _ hii]
        by_cases hji : j = i
        · subst hji
          obtain ⟨e, he, hb, hor⟩ := hlater i' j o hs' hl ho
          have hLe := hd e he hb
          rcases hor with h | h
          · rw [← h]; exact hLe
          · exact hc i' e.on hs' h (Nat.lt_trans (backOkG_spec hback ho e he hb) hilt) hLe
        · rw [upd_ne _ _ hji] at hL
          exact hc i' j hs' hl hj hL
    have hsz' : ∀ j, upd L i true j = true → j < ops.size := by
      intro j hj
      by_cases hji : j = i
      · rw [hji]; exact hilt
      · rw [upd_ne _ _ hji] at hj
        exact hsz j hj
    refine .inl ⟨hwant _, ?_⟩
    cases hsi : src i with
    | false =>
      obtain ⟨v, hr, hp, hFv, hIv⟩ := hq i o hsi ho L p x w (fun e he hb => hF e.on (hd e he hb)) hi hIp
      exact slot_run (v := v) (w' := w) hr ⟨v, hp, hcl, hsz', p, hIv, updJ hF hFv⟩
    | true =>
      refine Oper.wp_mono (fun a' w' h' => ?_) (hs i o hsi ho L p x w (fun e he hb => ⟨hd e he hb, hF e.on (hd e he hb)⟩) hi (fun j hl => by
        cases hj : L j with
        | false => rfl
        | true =>
          have := hc i j hsi hl (hsz j hj) hj
          rw [hi] at this
          cases this) hIp)
      obtain ⟨v, p', rfl, hFv, hkeep, hIv⟩ := h'
      refine ⟨v, rfl, hcl, hsz', p', hIv, fun j hj => ?_⟩
      by_cases hji : j = i
      · subst hji; rw [upd_self]; exact hFv
      · rw [upd_ne _ _ hji] at hj ⊢
        by_cases hlj : later i j = true
        · have := hc i j hsi hlj (hsz j hj) hj
          rw [hi] at this
          cases this
        · exact hkeep j _ hji (by simpa using hlj) (hF j hj)
  · rintro L x w hall ⟨hc, _, p, hIp, hF⟩
    exact hend L p x w (fun j hj => ⟨hall j hj, hF j (hall j hj)⟩) hIp
/-- What is to be looked up of such a region's order, for the kernel. -/
def parOk (ops : Array Oper) (srcs : List Nat) (later : Nat → Nat → Bool) : Bool := srcs.all fun i => (List.range ops.size).all fun j => !later i j || (match ops[j]? with
  | some o => o.after.toList.any fun e => Region.binds .any e && (e.on == i || later i e.on)
  | none => true)
theorem parOk_spec {srcs : List Nat} {later : Nat → Nat → Bool} (h : parOk ops srcs later = true) : ∀ i j o, srcs.contains i = true → later i j = true → ops[j]? = some o → ∃ e ∈ o.after, Region.binds .any e = true ∧ (e.on = i ∨ later i e.on = true) := by
  intro i j o hi hl ho
  have h1 := List.all_eq_true.1 h i (by simpa using hi)
  have h2 := List.all_eq_true.1 h1 j (List.mem_range.2 (Array.getElem?_eq_some_iff.1 ho).1)
  rw [hl, ho] at h2
  simp only [Bool.not_true, Bool.false_or] at h2
  obtain ⟨e, he, hb⟩ := List.any_eq_true.1 h2
  refine ⟨e, by simpa using he, ?_⟩
  simpa using hb
end
end Go.Proofs.Ytdjpeebekpjiiaa
/- lay: frames are laid behind the log's end, durable. -/
namespace Go.Proofs.Ytdjpeebekpjiiaa.Dk
open Go Go.RowKit
set_option linter.unusedVariables false
set_option linter.unusedSimpArgs false
/-- A log in memory, on a disk that goes on. -/
structure LogS (w : World) (B lg d r k g m n : Nat) (x : DS) (N count : Nat) (S : List UInt8) (t : TypeId) (T : List UInt8) (begin gr : Nat) (wv : Value) (W : List (List UInt8)) : Prop where
  lgat : LgAt w lg d r begin wv false
  ring : RingAt w r d k 2 count T.length S t
  disk : DiskAt Try.prog w d g m n x
  logd : LogD x N count T begin gr
  wait : WaitD w B wv W
  bas : B ≤ lg ∧ B ≤ d ∧ B ≤ g ∧ B ≤ m
  cnt : count = (N - 2) / 16 * 16
  few : N ≤ 4096
  sep : k ≠ lg ∧ some k ≠ wv.ownBlock
theorem WaitD.lt {w : World} {B : Nat} {v : Value} {W : List (List UInt8)} (h : WaitD w B v W) {q : Nat} (hq : some q = v.ownBlock) : q < w.heap.size := by
  obtain ⟨vs, h1, h2, h3⟩ := h
  rcases h2.2 with ⟨rfl, _⟩ | ⟨g, cap, cur, rfl, _, hh, _⟩
  · cases hq
  · have : q = g := by simpa [Value.ownBlock] using hq
    subst this
    exact lt_of_row hh
theorem own3_of {w : World} {d g m n : Nat} {x : DS} (hD : DiskAt Try.prog w d g m n x) {q : Nat} {cs : Array Value} {e : TypeId} {fr : Nat × Nat} (hq : w.heap[q]? = some (.cells cs e fr)) (h1 : e ≠ 61) (h2 : e ≠ 112) : ¬ own3 d g m q := by
  intro h
  rcases h with rfl | rfl | rfl
  · have := hD.blk
    rw [hq] at this
    injection this with this
    injection this with _ this _
    exact h1 this
  · have := hD.row
    rw [hq] at this
    injection this with this
    injection this with _ this _
    exact h2 this
  · exact hD.map.ne hq rfl
theorem below_frm3 {w w' : World} {B d g m : Nat} (h : Frm (own3 d g m) w w') (h1 : B ≤ d) (h2 : B ≤ g) (h3 : B ≤ m) (hB : B ≤ w.heap.size) : Below B w w' :=
  ⟨h.os, h.tape, h.output, h.size, fun q hq => h.block q (by omega) fun e => by
    rcases e with rfl | rfl | rfl <;> omega⟩
set_option maxRecDepth 100000 in
set_option maxHeartbeats 8000000 in
theorem wlay_any {w : World} {B lg d r k g m n : Nat} {x : DS} {N count : Nat} {S : List UInt8} {t : TypeId} {T : List UInt8} {begin gr : Nat} {wv : Value} {W : List (List UInt8)} (h : LogS w B lg d r k g m n x N count S t T begin gr wv W)
    (ht : T.length ≤ 4000000000) (hn : n ≤ 900000000) {f endp fp room : Nat} {ao : Option Addr} {pc : Nat} {L : List (List UInt8)} (hf : DfAt w f T.length endp fp room (.slice ao L.length pc)) (hP : Parts w (.slice ao L.length pc) L) (hl : L.length ≤ 1000000) (hsum : sumLen L ≤ 900000) (hroom : sumLen L ≤ leftN begin T.length count) (hgr : gr ≤ 1000000000) :
    Calls Try.prog 71 #[.pointer (some ⟨lg, 0, none⟩), .pointer (some ⟨f, 0, none⟩)] w fun e w' => ∃ r2 k2 S2 t2 x1 n1, e = .returned (.tuple #[.pointer (some ⟨r2, 0, none⟩), .int .i64 0]) ∧ RingAt w' r2 d k2 2 count (T ++ L.flatten).length S2 t2 ∧ DiskAt Try.prog w' d g m n1 x1.flush ∧ n1 ≤ n + sumLen L + 128 ∧
      Keeps 2 count N x1 S2 (T ++ L.flatten) ∧ (∀ j : Nat, j < 2 → x1.read (j : Int) = x.read (j : Int)) ∧ w.heap.size ≤ r2 ∧ w.heap.size ≤ k2 ∧ Frm (own3 d g m) w w' := by
  obtain ⟨c0, c1, c2, c3, c4⟩ := h.lgat.cells
  obtain ⟨e0, e1, e2, e3, e4⟩ := hf.cells
  have HL := Lib.hid h
  have HF := Lib.hid hf
  have HP := Lib.hid hP
  have hbl : begin < 18446744073709551616 := by have := h.logd.le; omega
  clear h hf hP
  go_enter Try.func71, Try.ntmps71
  go_wp2_with fail
  refine wp_region_par (α := Nat) (by kernel_rfl) (by kernel_rfl) (by kernel_rfl) (fun y => ⟨#[Value.pointer (some { block := lg, off := 0 }), Value.pointer (some { block := f, off := 0 }), undef, undef, Value.pointer none, Value.int IntKind.i64 0, y 12, y 13, undef, y 9, y 0, y 1, y 2, y 3, y 4, y 5, y 6, y 7, y 8, y 10, y 11, undef, undef, undef, undef, undef, undef, undef, undef, undef, undef, undef, undef, undef, undef, undef, undef, undef, undef, undef, undef, undef, undef], []⟩) (fun p j q => match j with
      | 0 => q = .pointer (some ⟨lg, 0, none⟩) | 1 => q = .pointer (some ⟨lg, 0, none⟩) | 2 => q = .pointer (some ⟨lg, 0, none⟩) | 3 => q = .pointer (some ⟨d, 0, none⟩)
      | 4 => q = .pointer (some ⟨f, 0, none⟩) | 5 => q = .pointer (some ⟨f, 0, none⟩) | 6 => q = .pointer (some ⟨f, 0, none⟩) | 7 => q = .int .u64 (T.length : Int)
      | 8 => q = .tuple #[.pointer (some ⟨p, 0, none⟩), .int .i64 0] | 9 => q = .tuple #[.pointer (some ⟨p, 0, none⟩), .int .i64 0]
      | 10 => q = .pointer (some ⟨p, 0, none⟩) | 11 => q = .int .i64 0 | 12 => q = .pointer (some ⟨p, 0, none⟩) | 13 => q = .int .i64 0 | _ => True) (fun M p wx => Below w.heap.size w wx ∧ (M 8 = true → ∃ k2 S2 t2, RingAt wx p d k2 2 count T.length S2 t2 ∧ Keeps 2 count N x S2 T ∧ w.heap.size ≤ p ∧ w.heap.size ≤ k2)) (fun i => [8].contains i) (fun i j => decide (8 < j)) (parOk_spec (by kernel_rfl)) ?_ ?_ ?_ (fun _ => undef) 0 rfl ⟨below_drewN (Below.refl _ _) 1, fun h => by cases h⟩
  · intro i' o hsrc ho M p y wx hd hi' hI
    match i', ho with
    | 0, ho =>
      obtain rfl := Option.some.inj ho
      exact ⟨.pointer (some ⟨lg, 0, none⟩), rfl, rfl, rfl, ⟨hI.1, fun h => hI.2 (by rwa [Go.Proofs.Ytdjpeebekpjiiaa.upd_ne _ _ (by decide)] at h)⟩⟩
    | 1, ho =>
      obtain rfl := Option.some.inj ho
      have ya : y 0 = .pointer (some ⟨lg, 0, none⟩) := hd ⟨0, .data⟩ (by simp) rfl
      refine ⟨.pointer (some ⟨lg, 0, none⟩), ?_, rfl, rfl, ⟨hI.1, fun h => hI.2 (by rwa [Go.Proofs.Ytdjpeebekpjiiaa.upd_ne _ _ (by decide)] at h)⟩⟩
      refine runWithW (fun z => match z with | .tmp 10 => y 0 | _ => undef) (by kernel_rfl) ?_
      rw [ya]
      go_simp
    | 2, ho =>
      obtain rfl := Option.some.inj ho
      have ya : y 1 = .pointer (some ⟨lg, 0, none⟩) := hd ⟨1, .data⟩ (by simp) rfl
      refine ⟨.pointer (some ⟨lg, 0, none⟩), ?_, rfl, rfl, ⟨hI.1, fun h => hI.2 (by rwa [Go.Proofs.Ytdjpeebekpjiiaa.upd_ne _ _ (by decide)] at h)⟩⟩
      refine runWithW (fun z => match z with | .tmp 11 => y 1 | _ => undef) (by kernel_rfl) ?_
      rw [ya]
      go_simp
    | 3, ho =>
      obtain rfl := Option.some.inj ho
      have ya : y 2 = .pointer (some ⟨lg, 0, none⟩) := hd ⟨2, .data⟩ (by simp) rfl
      have cx : wx.cell? ⟨lg, 0, none⟩ = some (.pointer (some ⟨d, 0, none⟩)) := ((HL.out.lgat.below hI.1 (Nat.le_refl _)).cells).c0
      refine ⟨.pointer (some ⟨d, 0, none⟩), ?_, rfl, rfl, ⟨hI.1, fun h => hI.2 (by rwa [Go.Proofs.Ytdjpeebekpjiiaa.upd_ne _ _ (by decide)] at h)⟩⟩
      refine runWithW (fun z => match z with | .tmp 12 => y 2 | _ => undef) (by kernel_rfl) ?_
      rw [ya]
      go_simp
    | 4, ho =>
      obtain rfl := Option.some.inj ho
      exact ⟨.pointer (some ⟨f, 0, none⟩), rfl, rfl, rfl, ⟨hI.1, fun h => hI.2 (by rwa [Go.Proofs.Ytdjpeebekpjiiaa.upd_ne _ _ (by decide)] at h)⟩⟩
    | 5, ho =>
      obtain rfl := Option.some.inj ho
      have ya : y 4 = .pointer (some ⟨f, 0, none⟩) := hd ⟨4, .data⟩ (by simp) rfl
      refine ⟨.pointer (some ⟨f, 0, none⟩), ?_, rfl, rfl, ⟨hI.1, fun h => hI.2 (by rwa [Go.Proofs.Ytdjpeebekpjiiaa.upd_ne _ _ (by decide)] at h)⟩⟩
      refine runWithW (fun z => match z with | .tmp 14 => y 4 | _ => undef) (by kernel_rfl) ?_
      rw [ya]
      go_simp
    | 6, ho =>
      obtain rfl := Option.some.inj ho
      have ya : y 5 = .pointer (some ⟨f, 0, none⟩) := hd ⟨5, .data⟩ (by simp) rfl
      refine ⟨.pointer (some ⟨f, 0, none⟩), ?_, rfl, rfl, ⟨hI.1, fun h => hI.2 (by rwa [Go.Proofs.Ytdjpeebekpjiiaa.upd_ne _ _ (by decide)] at h)⟩⟩
      refine runWithW (fun z => match z with | .tmp 15 => y 5 | _ => undef) (by kernel_rfl) ?_
      rw [ya]
      go_simp
    | 7, ho =>
      obtain rfl := Option.some.inj ho
      have ya : y 6 = .pointer (some ⟨f, 0, none⟩) := hd ⟨6, .data⟩ (by simp) rfl
      have cx : wx.cell? ⟨f, 0, none⟩ = some (.int .u64 (T.length : Int)) := ((HF.out.below hI.1 (Nat.le_refl _)).cells).c0
      refine ⟨.int .u64 (T.length : Int), ?_, rfl, rfl, ⟨hI.1, fun h => hI.2 (by rwa [Go.Proofs.Ytdjpeebekpjiiaa.upd_ne _ _ (by decide)] at h)⟩⟩
      refine runWithW (fun z => match z with | .tmp 16 => y 6 | _ => undef) (by kernel_rfl) ?_
      rw [ya]
      go_simp
    | 8, ho =>
      obtain rfl := Option.some.inj ho
      cases hsrc
    | 9, ho =>
      obtain rfl := Option.some.inj ho
      have ya : y 8 = .tuple #[.pointer (some ⟨p, 0, none⟩), .int .i64 0] := hd ⟨8, .data⟩ (by simp) rfl
      refine ⟨.tuple #[.pointer (some ⟨p, 0, none⟩), .int .i64 0], ?_, rfl, rfl, ⟨hI.1, fun h => hI.2 (by rwa [Go.Proofs.Ytdjpeebekpjiiaa.upd_ne _ _ (by decide)] at h)⟩⟩
      refine runWithW (fun z => match z with | .tmp 18 => y 8 | _ => undef) (by kernel_rfl) ?_
      rw [ya]
      go_simp
    | 10, ho =>
      obtain rfl := Option.some.inj ho
      have ya : y 9 = .tuple #[.pointer (some ⟨p, 0, none⟩), .int .i64 0] := hd ⟨9, .data⟩ (by simp) rfl
      refine ⟨.pointer (some ⟨p, 0, none⟩), ?_, rfl, rfl, ⟨hI.1, fun h => hI.2 (by rwa [Go.Proofs.Ytdjpeebekpjiiaa.upd_ne _ _ (by decide)] at h)⟩⟩
      refine runWithW (fun z => match z with | .tmp 9 => y 9 | _ => undef) (by kernel_rfl) ?_
      rw [ya]
      go_simp
    | 11, ho =>
      obtain rfl := Option.some.inj ho
      have ya : y 9 = .tuple #[.pointer (some ⟨p, 0, none⟩), .int .i64 0] := hd ⟨9, .data⟩ (by simp) rfl
      refine ⟨.int .i64 0, ?_, rfl, rfl, ⟨hI.1, fun h => hI.2 (by rwa [Go.Proofs.Ytdjpeebekpjiiaa.upd_ne _ _ (by decide)] at h)⟩⟩
      refine runWithW (fun z => match z with | .tmp 9 => y 9 | _ => undef) (by kernel_rfl) ?_
      rw [ya]
      go_simp
    | 12, ho =>
      obtain rfl := Option.some.inj ho
      have ya : y 10 = .pointer (some ⟨p, 0, none⟩) := hd ⟨10, .data⟩ (by simp) rfl
      refine ⟨.pointer (some ⟨p, 0, none⟩), ?_, rfl, rfl, ⟨hI.1, fun h => hI.2 (by rwa [Go.Proofs.Ytdjpeebekpjiiaa.upd_ne _ _ (by decide)] at h)⟩⟩
      refine runWithW (fun z => match z with | .tmp 19 => y 10 | _ => undef) (by kernel_rfl) ?_
      rw [ya]
      go_simp
    | 13, ho =>
      obtain rfl := Option.some.inj ho
      have ya : y 11 = .int .i64 0 := hd ⟨11, .data⟩ (by simp) rfl
      refine ⟨.int .i64 0, ?_, rfl, rfl, ⟨hI.1, fun h => hI.2 (by rwa [Go.Proofs.Ytdjpeebekpjiiaa.upd_ne _ _ (by decide)] at h)⟩⟩
      refine runWithW (fun z => match z with | .tmp 20 => y 11 | _ => undef) (by kernel_rfl) ?_
      rw [ya]
      go_simp
    | j + 14, ho => cases ho
  · intro i' o hsrc ho M p y wx hd hi' _ hI
    obtain rfl : i' = 8 := by simpa using hsrc
    obtain rfl := Option.some.inj ho
    have y3 : y 3 = .pointer (some ⟨d, 0, none⟩) := (hd ⟨3, .data⟩ (by simp) rfl).2
    have y7 : y 7 = .int .u64 (T.length : Int) := (hd ⟨7, .data⟩ (by simp) rfl).2
    have HH := wopenRing_any (w := wx) (HL.out.disk.below hI.1 (Nat.le_refl _)) HL.out.logd HL.out.cnt ht
    refine slot_call #[.pointer (some ⟨d, 0, none⟩), .int .u64 (T.length : Int)] rfl Try.func33 (by kernel_rfl) (by kernel_rfl) (by simp [Act.eval, y3, y7]) ?_
    refine HH.mono ?_
    rintro e w' ⟨r2, k2, S2, rfl, hR2, hK2, hb2, hr2, hk2⟩
    refine ⟨_, rfl, _, r2, rfl, rfl, ?_, hI.1.trans (hb2.mono hI.1.size), fun _ => ⟨k2, S2, _, hR2, hK2, Nat.le_trans hI.1.size hr2, Nat.le_trans hI.1.size hk2⟩⟩
    intro j q hne hj hF
    have hj8 : j ≤ 8 := by simpa using hj
    match j, hne, hj8, hF with
    | 0, _, _, hF => exact hF
    | 1, _, _, hF => exact hF
    | 2, _, _, hF => exact hF
    | 3, _, _, hF => exact hF
    | 4, _, _, hF => exact hF
    | 5, _, _, hF => exact hF
    | 6, _, _, hF => exact hF
    | 7, _, _, hF => exact hF
    | 8, hne, _, _ => exact absurd rfl hne
    | k + 9, _, hj8, _ => omega
  · rintro M p y wx hall ⟨hb2, hpost⟩
    obtain ⟨k2, S2, t2, hR2, hK2, hr2, hk2⟩ := hpost (hall 8 (by decide)).1
    have y12 : y 12 = .pointer (some ⟨p, 0, none⟩) := (hall 12 (by decide)).2
    have y13 : y 13 = .int .i64 0 := (hall 13 (by decide)).2
    dsimp only
    rw [y12, y13]
    clear c0 c1 c2 c3 c4 e0 e1 e2 e3 e4
    obtain ⟨w2, hw2⟩ : ∃ w2, w2 = wx := ⟨_, rfl⟩
    rw [← hw2] at hb2 hR2 ⊢
    obtain ⟨r2, hr2'⟩ : ∃ r2, r2 = p := ⟨_, rfl⟩
    rw [← hr2'] at hR2 hr2 ⊢
    have B2 := Lib.hid hb2
    have HD2 := Lib.hid (HL.out.disk.below hb2 (Nat.le_refl _))
    have HR2 := Lib.hid hR2
    have HK2 := Lib.hid hK2
    have Z2 := Lib.hid (And.intro hr2 hk2)
    have HL2 := Lib.hid (HL.out.lgat.below hb2 (Nat.le_refl _))
    have HF2 := Lib.hid (HF.out.below hb2 (Nat.le_refl _))
    have HP2 := Lib.hid (HP.out.below hb2 (Nat.le_refl _))
    clear hR2 hK2 hb2 hr2 hk2 hw2 hr2' hpost hall y12 y13
    obtain ⟨c0, c1, c2, c3, c4⟩ := HL2.out.cells
    obtain ⟨e0, e1, e2, e3, e4⟩ := HF2.out.cells
    go_wp2_with fail
    (refine wp_region_quiet_tail 9 (by kernel_rfl) (by kernel_rfl) ?_; simp only [List.take_succ_cons, List.take_zero, List.drop_succ_cons, List.drop_zero]; (repeat (go_big_quiet_step (fail))); refine wpQuiet_nil ?_; intro _ hw'; obtain ⟨nq, hw''⟩ := hw'; subst hw'')
    obtain ⟨w3, hw3⟩ : ∃ w3, w3 = w2.drewN nq := ⟨_, rfl⟩
    rw [← hw3]
    have b3 : Below w2.heap.size w2 w3 := by rw [hw3]; exact below_drewN (Below.refl _ _) _
    have nr2 : ¬ own3 d g m r2 := own3_of HD2.out HR2.out.blk (by decide) (by decide)
    have nk2 : ¬ own3 d g m k2 := fun e => by
      have h1 := HL.out.disk.dlt; have h2 := HL.out.disk.glt; have h3 := HL.out.disk.mlt; have h4 := Z2.out
      rcases e with e | e | e <;> omega
    have AP := Lib.hid (append_keeps2 (HR2.out.below b3 (Nat.le_refl _)) ht (HD2.out.below b3 (Nat.le_refl _)) HK2.out HL.out.logd.fit nr2 nk2 (by omega) begin hbl ao pc L (HP2.out.below b3 (Nat.le_refl _)) hl hsum hroom)
    have B3 := Lib.hid (B2.out.trans (b3.mono B2.out.size))
    have LG3 := Lib.hid (HL2.out.below b3 (Nat.le_refl _))
    have NR2 := Lib.hid nr2
    clear hw3 b3 nr2 nk2 c0 c1 c2 c3 c4 e0 e1 e2 e3 e4
    go_wp2_with fail
    refine AP.out.mono ?_
    rintro e w4 ⟨rfl, k4, S4, t4, x4, n4, hR4, nk4, kr4, kc4, hD4, hn4, hK4, hlow4, hF4⟩
    have LG4 := Lib.hid (LG3.out.keep (hF4.block lg LG3.out.lt (fun e => by
      rcases e with e | e
      · have h1 := HL.out.lgat.lt; have h2 := Z2.out; omega
      · exact own3_of HL.out.disk HL.out.lgat (by decide) (by decide) e)))
    have FLU := Lib.hid (flush_any hD4 (fun i l hi hs => by
      obtain ⟨_, h1, h2⟩ := hK4.good.wl i l hs
      unfold DS.has
      rw [hK4.good.n]
      simp [h1, h2]))
    have FC := Lib.hid (hK4.good.flush.2.1)
    have HR4 := Lib.hid hR4
    have HK4 := Lib.hid hK4
    have HN4 := Lib.hid hn4
    have HLOW := Lib.hid hlow4
    have NK4 := Lib.hid nk4
    have KC4 := Lib.hid kc4
    have HF4 := Lib.hid hF4
    obtain ⟨c0, c1, c2, c3, c4⟩ := LG4.out.cells
    clear hR4 nk4 kr4 kc4 hD4 hn4 hK4 hlow4 hF4 c1 c2 c3 c4
    go_wp2_with fail
    rw [FC.out] at FLU
    refine FLU.out.mono ?_
    rintro e w5 ⟨rfl, hD5, hF5⟩
    have HD5 := Lib.hid hD5
    have HR5 := Lib.hid (HR4.out.frame hF5 NR2.out NK4.out)
    have z4 : w.heap.size ≤ k4 := by
      rcases KC4.out with e | e
      · rw [e]; exact Z2.out.2
      · exact Nat.le_trans B3.out.size e
    have HFF := Lib.hid (show Frm (own3 d g m) w w5 from by
      refine ⟨(hF5.os.trans (HF4.out.os.trans B3.out.os)), (hF5.tape.trans (HF4.out.tape.trans B3.out.tape)), (hF5.output.trans (HF4.out.output.trans B3.out.output)), Nat.le_trans B3.out.size (Nat.le_trans HF4.out.size hF5.size), fun q hq hne => ?_⟩
      have hq3 : q < w3.heap.size := Nat.lt_of_lt_of_le hq B3.out.size
      rw [hF5.block q (Nat.lt_of_lt_of_le hq3 HF4.out.size) hne, HF4.out.block q hq3 (fun e => by
        rcases e with e | e
        · have := Z2.out; omega
        · exact hne e)]
      exact B3.out.block q hq)
    have HZ4 := Lib.hid z4
    clear hD5 hF5 z4
    go_wp2_with fail
    go_ret2
    exact ⟨r2, k4, S4, t4, x4, n4, rfl, HR5.out, HD5.out, HN4.out, HK4.out, HLOW.out, Z2.out.1, HZ4.out, HFF.out⟩
end Go.Proofs.Ytdjpeebekpjiiaa.Dk
/- put: frames behind the others, and the mark behind them. -/
namespace Go.Proofs.Ytdjpeebekpjiiaa.Dk
open Go Go.RowKit
set_option linter.unusedVariables false
set_option linter.unusedSimpArgs false
theorem own3_lg {w : World} {d g m n : Nat} {x : DS} (hD : DiskAt Try.prog w d g m n x) {lg r begin : Nat} {wv : Value} {dn : Bool} (hl : LgAt w lg d r begin wv dn) : ¬ own3 d g m lg := own3_of hD hl (by decide) (by decide)
theorem waitD_frame {w w' : World} {B lg d g m n r begin : Nat} {x : DS} {v wv : Value} {dn : Bool} {W : List (List UInt8)} (h : WaitD w B v W) (hD : DiskAt Try.prog w d g m n x) (hl : LgAt w lg d r begin wv dn) (hf : Frm (fun q => q = lg ∨ own3 d g m q) w w') : WaitD w' B v W :=
  h.keep fun q cs fr e he _ hq => hf.block q (lt_of_row hq) fun hT => by
    rcases hT with rfl | hT
    · rw [hl] at hq
      injection hq with hq
      injection hq with _ hq _
      rcases he with rfl | rfl <;> exact absurd hq (by decide)
    · rcases fr with ⟨f1, f2⟩
      have hne : e ≠ 61 ∧ e ≠ 112 := by rcases he with rfl | rfl <;> exact ⟨by decide, by decide⟩
      rcases hT with rfl | rfl | rfl
      · have := hD.blk
        rw [hq] at this
        injection this with this
        injection this with _ this _
        exact hne.1 this
      · have := hD.row
        rw [hq] at this
        injection this with this
        injection this with _ this _
        exact hne.2 this
      · exact hD.map.ne hq rfl
structure PhI (w2 wx : World) (d g m n : Nat) (X2 : DS) (p b' endp : Nat) (M : Nat → Bool) : Prop where
  frm : Frm (own3 d g m) w2 wx
  pre : M 10 = false → Below w2.heap.size w2 wx ∧ (M 9 = true → wx.heap[p]? = some (.cells #[.int .u64 (b' : Int), .int .u64 (endp : Int)] 43 (0, 0)))
  post : M 10 = true → DiskAt Try.prog wx d g m n X2
theorem PhI.step {w2 wx : World} {d g m n : Nat} {X2 : DS} {p b' endp : Nat} {M : Nat → Bool} (h : PhI w2 wx d g m n X2 p b' endp M) {i : Nat} (h9 : i ≠ 9) (h10 : i ≠ 10) : PhI w2 wx d g m n X2 p b' endp (Go.Proofs.Ytdjpeebekpjiiaa.upd M i true) :=
  ⟨h.frm, fun e => by
    rw [upd_ne _ _ (Ne.symm h10)] at e
    exact ⟨(h.pre e).1, fun e9 => by
      rw [upd_ne _ _ (Ne.symm h9)] at e9
      exact (h.pre e).2 e9⟩, fun e => by
    rw [upd_ne _ _ (Ne.symm h10)] at e
    exact h.post e⟩
set_option maxRecDepth 100000 in
set_option maxHeartbeats 8000000 in
theorem wput_any {w : World} {B lg d r k g m n : Nat} {x : DS} {N count : Nat} {S : List UInt8} {t : TypeId} {T : List UInt8} {begin gr : Nat} {wv : Value} {W : List (List UInt8)} (h : LogS w B lg d r k g m n x N count S t T begin gr wv W)
    (ht : T.length ≤ 4000000000) (hn : n ≤ 900000000) {f endp fp room : Nat} {ao : Option Addr} {pc : Nat} {L : List (List UInt8)} (hf : DfAt w f T.length endp fp room (.slice ao L.length pc)) (hP : Parts w (.slice ao L.length pc) L) (hl : L.length ≤ 1000000) (hsum : sumLen L ≤ 900000) (hroom : sumLen L ≤ leftN begin T.length count) (hgr : gr ≤ 1000000000)
    (he : endp = T.length + sumLen L) {b' : Nat} (hb' : b' ≤ endp) :
    Calls Try.prog 51 #[.pointer (some ⟨lg, 0, none⟩), .pointer (some ⟨f, 0, none⟩), .int .u64 (b' : Int)] w fun e w' => e = .returned (.int .i64 0) ∧ ∃ r2 k2 S2 t2 x2 n2, LogS w' B lg d r2 k2 g m n2 x2 N count S2 t2 (T ++ L.flatten) b' (gr + 2) wv W ∧ n2 ≤ n + sumLen L + 129 ∧ w.heap.size ≤ r2 ∧ w.heap.size ≤ k2 ∧ Frm (fun q => q = lg ∨ own3 d g m q) w w' := by
  have LY := Lib.hid (wlay_any h ht hn hf hP hl hsum hroom hgr)
  have HL := Lib.hid h
  have HF := Lib.hid hf
  have HBE := Lib.hid hb'
  have HE := Lib.hid he
  have hel : endp < 18446744073709551616 := by omega
  clear h hf hP he hb'
  go_enter Try.func51, Try.ntmps51
  go_wp2_with fail
  refine LY.out.mono ?_
  rintro e w2 ⟨r2, k2, S2, t2, x1, n1, rfl, hR2, hD2, hn2, hK2, hlow, hr2, hk2, hF2⟩
  have hlf : L.flatten.length = sumLen L := rfl
  have hee : endp = (T ++ L.flatten).length := by rw [List.length_append, hlf]; exact HE.out
  have LP := (logD_put (b' := b') HL.out.logd hK2 hlow hgr (by rw [← hee]; exact HBE.out) (by rw [← hee]; exact hel))
  rw [← hee] at LP
  obtain ⟨AG, X2, hX2, PUT⟩ : ∃ AG X2, LogD X2 N count (T ++ L.flatten) b' (gr + 2) ∧ ∀ (wx : World) (p : Nat), DiskAt Try.prog wx d g m n1 x1.flush → wx.heap[p]? = some (.cells #[.int .u64 (b' : Int), .int .u64 (endp : Int)] 43 (0, 0)) →
      Calls Try.prog 72 #[.pointer (some ⟨d, 0, none⟩), .int .i64 0, .slice (some ⟨p, 0, none⟩) 2 2] wx fun e w' => e = .returned (.tuple #[AG, .int .i64 0]) ∧ DiskAt Try.prog w' d g m (n1 + 1) X2 ∧ Frm (own3 d g m) wx w' := by
    refine ⟨.agg (pick0 0 (x1.flush.next 0 [b', endp])).cells.toArray, _, LP.2.2.2, fun wx p hD hp => ?_⟩
    have hfg := hK2.good.flush.1
    have PP := put_ok hD (by unfold maxLen; omega) (fun i l hi hs => by
      obtain ⟨_, q1, q2⟩ := hfg.wl i l hs
      unfold DS.has
      rw [hfg.n]
      simp [q1, q2]) 0 (by rw [hfg.n]; have := HL.out.logd.fit; omega) hfg.up (ao := some ⟨p, 0, none⟩) (c := 2) (ws := [b', endp]) ⟨some ⟨p, 0, none⟩, 2, rfl, (fun h => by cases h), fun ad ha j u hu => by
        cases ha
        rw [Addr.add_mid, cell_of_row wx p (0 + j) _ _ _ hp, Nat.zero_add]
        simpa [uv] using hu⟩ (fun u hu => by
        simp only [List.mem_cons, List.not_mem_nil, or_false] at hu
        have := HBE.out
        rcases hu with rfl | rfl <;> omega) (by simp) LP.2.1
    rw [LP.2.2.1] at PP
    exact PP
  have HX2 := Lib.hid hX2
  have HPUT := Lib.hid PUT
  have HEE := Lib.hid hee
  clear LP hX2 PUT hee hlf
  have HR2 := Lib.hid hR2
  have HD2 := Lib.hid hD2
  have HN2 := Lib.hid hn2
  have HF2 := Lib.hid hF2
  have Z2 := Lib.hid (And.intro hr2 hk2)
  have LG2 := Lib.hid (HL.out.lgat.keep (hF2.block lg HL.out.lgat.lt (own3_lg HL.out.disk HL.out.lgat)))
  have DF2 := Lib.hid (HF.out.keep (hF2.block f HF.out.lt (own3_of HL.out.disk HF.out (by decide) (by decide))))
  clear hR2 hD2 hn2 hF2 hr2 hk2 hlow hK2 LY
  go_wp2_with fail
  have nlg := own3_lg HD2.out LG2.out
  have nf := own3_of HD2.out DF2.out (by decide) (by decide)
  have NLG := Lib.hid nlg
  have NF := Lib.hid nf
  clear nlg nf
  refine wp_region_par (α := Nat) (by kernel_rfl) (by kernel_rfl) (by kernel_rfl) (fun y => ⟨#[.pointer (some ⟨lg, 0, none⟩), .pointer (some ⟨f, 0, none⟩), .int .u64 (b' : Int), undef, undef, undef, .int .i64 0, .pointer (some ⟨r2, 0, none⟩), y 14, .tuple #[.pointer (some ⟨r2, 0, none⟩), .int .i64 0], .pointer (some ⟨lg, 0, none⟩), .pointer (some ⟨f, 0, none⟩), .tuple #[.pointer (some ⟨r2, 0, none⟩), .int .i64 0], .pointer (some ⟨r2, 0, none⟩), .int .i64 0, .int .i64 0, .bool true, y 11, y 0, y 1, y 2, y 3, y 4, y 5, y 6, y 7, y 8, y 9, y 10, y 12, y 13, undef, undef, undef, undef, undef, undef, undef, undef, undef, undef, undef, undef, undef, undef, undef, undef], []⟩) (fun p j q => match j with | 0 => q = .pointer (some ⟨lg, 0, none⟩) | 1 => q = .pointer (some ⟨lg, 0, none⟩) | 2 => q = .pointer (some ⟨lg, 0, none⟩) | 3 => q = .pointer (some ⟨d, 0, none⟩) | 4 => q = .int .u64 (b' : Int) | 5 => q = .pointer (some ⟨f, 0, none⟩) | 6 => q = .pointer (some ⟨f, 0, none⟩) | 7 => q = .pointer (some ⟨f, 1, none⟩) | 8 => q = .int .u64 (endp : Int) | 9 => q = .slice (some ⟨p, 0, none⟩) 2 2 | 10 => q = .tuple #[AG, .int .i64 0] | 11 => q = .tuple #[AG, .int .i64 0] | 12 => q = AG | 13 => q = .int .i64 0 | 14 => q = .int .i64 0 | _ => True) (fun M p wx => PhI w2 wx d g m (n1 + 1) X2 p b' endp M) (fun i => [9, 10].contains i) (fun i j => i == 9 && j == 10) (parOk_spec (by kernel_rfl)) ?_ ?_ ?_ (fun j => if j = 14 then .int .i64 0 else undef) 0 rfl ⟨(Frm.refl _ _).drewN 1, (fun _ => ⟨below_drewN (Below.refl _ _) 1, fun h => by cases h⟩), fun h => by cases h⟩
  · intro i' o hsrc ho M p y wx hd hi' hI
    match i', ho with
    | 0, ho =>
      obtain rfl := Option.some.inj ho
      exact ⟨.pointer (some ⟨lg, 0, none⟩), rfl, rfl, rfl, hI.step (by decide) (by decide)⟩
    | 1, ho =>
      obtain rfl := Option.some.inj ho
      have ya : y 0 = .pointer (some ⟨lg, 0, none⟩) := hd ⟨0, .data⟩ (by simp) rfl
      refine ⟨.pointer (some ⟨lg, 0, none⟩), ?_, rfl, rfl, hI.step (by decide) (by decide)⟩
      refine runWithW (fun z => match z with | .tmp 18 => y 0 | _ => undef) (by kernel_rfl) ?_
      rw [ya]
      go_simp
    | 2, ho =>
      obtain rfl := Option.some.inj ho
      have ya : y 1 = .pointer (some ⟨lg, 0, none⟩) := hd ⟨1, .data⟩ (by simp) rfl
      refine ⟨.pointer (some ⟨lg, 0, none⟩), ?_, rfl, rfl, hI.step (by decide) (by decide)⟩
      refine runWithW (fun z => match z with | .tmp 19 => y 1 | _ => undef) (by kernel_rfl) ?_
      rw [ya]
      go_simp
    | 3, ho =>
      obtain rfl := Option.some.inj ho
      have ya : y 2 = .pointer (some ⟨lg, 0, none⟩) := hd ⟨2, .data⟩ (by simp) rfl
      have cx : wx.cell? ⟨lg, 0, none⟩ = some (.pointer (some ⟨d, 0, none⟩)) := (LgAt.cells (LG2.out.keep (hI.frm.block lg LG2.out.lt NLG.out))).c0
      refine ⟨.pointer (some ⟨d, 0, none⟩), ?_, rfl, rfl, hI.step (by decide) (by decide)⟩
      refine runWithW (fun z => match z with | .tmp 20 => y 2 | _ => undef) (by kernel_rfl) ?_
      rw [ya]
      go_simp
    | 4, ho =>
      obtain rfl := Option.some.inj ho
      exact ⟨.int .u64 (b' : Int), rfl, rfl, rfl, hI.step (by decide) (by decide)⟩
    | 5, ho =>
      obtain rfl := Option.some.inj ho
      exact ⟨.pointer (some ⟨f, 0, none⟩), rfl, rfl, rfl, hI.step (by decide) (by decide)⟩
    | 6, ho =>
      obtain rfl := Option.some.inj ho
      have ya : y 5 = .pointer (some ⟨f, 0, none⟩) := hd ⟨5, .data⟩ (by simp) rfl
      refine ⟨.pointer (some ⟨f, 0, none⟩), ?_, rfl, rfl, hI.step (by decide) (by decide)⟩
      refine runWithW (fun z => match z with | .tmp 23 => y 5 | _ => undef) (by kernel_rfl) ?_
      rw [ya]
      go_simp
    | 7, ho =>
      obtain rfl := Option.some.inj ho
      have ya : y 6 = .pointer (some ⟨f, 0, none⟩) := hd ⟨6, .data⟩ (by simp) rfl
      refine ⟨.pointer (some ⟨f, 1, none⟩), ?_, rfl, rfl, hI.step (by decide) (by decide)⟩
      refine runWithW (fun z => match z with | .tmp 24 => y 6 | _ => undef) (by kernel_rfl) ?_
      rw [ya]
      go_simp
    | 8, ho =>
      obtain rfl := Option.some.inj ho
      have ya : y 7 = .pointer (some ⟨f, 1, none⟩) := hd ⟨7, .data⟩ (by simp) rfl
      have cx : wx.cell? ⟨f, 1, none⟩ = some (.int .u64 (endp : Int)) := (DfAt.cells (DF2.out.keep (hI.frm.block f DF2.out.lt NF.out))).c1
      refine ⟨.int .u64 (endp : Int), ?_, rfl, rfl, hI.step (by decide) (by decide)⟩
      refine runWithW (fun z => match z with | .tmp 25 => y 7 | _ => undef) (by kernel_rfl) ?_
      rw [ya]
      go_simp
    | 9, ho =>
      obtain rfl := Option.some.inj ho
      cases hsrc
    | 10, ho =>
      obtain rfl := Option.some.inj ho
      cases hsrc
    | 11, ho =>
      obtain rfl := Option.some.inj ho
      have ya : y 10 = .tuple #[AG, .int .i64 0] := hd ⟨10, .data⟩ (by simp) rfl
      refine ⟨.tuple #[AG, .int .i64 0], ?_, rfl, rfl, hI.step (by decide) (by decide)⟩
      refine runWithW (fun z => match z with | .tmp 28 => y 10 | _ => undef) (by kernel_rfl) ?_
      rw [ya]
      go_simp
    | 12, ho =>
      obtain rfl := Option.some.inj ho
      have ya : y 11 = .tuple #[AG, .int .i64 0] := hd ⟨11, .data⟩ (by simp) rfl
      refine ⟨AG, ?_, rfl, rfl, hI.step (by decide) (by decide)⟩
      refine runWithW (fun z => match z with | .tmp 17 => y 11 | _ => undef) (by kernel_rfl) ?_
      rw [ya]
      go_simp
    | 13, ho =>
      obtain rfl := Option.some.inj ho
      have ya : y 11 = .tuple #[AG, .int .i64 0] := hd ⟨11, .data⟩ (by simp) rfl
      refine ⟨.int .i64 0, ?_, rfl, rfl, hI.step (by decide) (by decide)⟩
      refine runWithW (fun z => match z with | .tmp 17 => y 11 | _ => undef) (by kernel_rfl) ?_
      rw [ya]
      go_simp
    | 14, ho =>
      obtain rfl := Option.some.inj ho
      have ya : y 13 = .int .i64 0 := hd ⟨13, .data⟩ (by simp) rfl
      refine ⟨.int .i64 0, ?_, rfl, rfl, hI.step (by decide) (by decide)⟩
      refine runWithW (fun z => match z with | .tmp 30 => y 13 | _ => undef) (by kernel_rfl) ?_
      rw [ya]
      go_simp
    | j + 15, ho => cases ho
  · intro i' o hsrc ho M p y wx hd hi' hlat hI
    have h2 : i' = 9 ∨ i' = 10 := by simpa using hsrc
    rcases h2 with rfl | rfl
    · obtain rfl := Option.some.inj ho
      have y4 : y 4 = .int .u64 (b' : Int) := (hd ⟨4, .data⟩ (by simp) rfl).2
      have y8 : y 8 = .int .u64 (endp : Int) := (hd ⟨8, .data⟩ (by simp) rfl).2
      have h10 : M 10 = false := hlat 10 rfl
      have hb3 := (hI.pre h10).1
      refine slot_run (v := .slice (some ⟨wx.heap.size, 0, none⟩) 2 2) (w' := wx.alloc (.cells #[y 4, y 8] 43)) ?_ ?_
      · refine runWithW (fun z => match z with | .tmp 22 => y 4 | .tmp 26 => y 8 | _ => undef) (by kernel_rfl) ?_
        rw [y4, y8]
        go_simp
      · have hbn : Below wx.heap.size wx (wx.alloc (.cells #[y 4, y 8] 43)) := (Below.refl _ _).alloc (Nat.le_refl _) _
        refine ⟨_, wx.heap.size, rfl, rfl, ?_, hI.frm.trans ⟨hbn.os, hbn.tape, hbn.output, hbn.size, fun q hq _ => hbn.block q hq⟩, (fun _ => ⟨hb3.trans (hbn.mono hb3.size), fun _ => by rw [← y4, ← y8]; exact heap_alloc_new _ _⟩), fun e => by rw [upd_ne _ _ (by decide), h10] at e; cases e⟩
        intro j q hne _ hF
        match j, hne, hF with
        | 9, hne, _ => exact absurd rfl hne
        | 0, _, hF => exact hF
        | 1, _, hF => exact hF
        | 2, _, hF => exact hF
        | 3, _, hF => exact hF
        | 4, _, hF => exact hF
        | 5, _, hF => exact hF
        | 6, _, hF => exact hF
        | 7, _, hF => exact hF
        | 8, _, hF => exact hF
        | 10, _, hF => exact hF
        | 11, _, hF => exact hF
        | 12, _, hF => exact hF
        | 13, _, hF => exact hF
        | 14, _, hF => exact hF
        | j + 15, _, _ => trivial
    · obtain rfl := Option.some.inj ho
      have y3 : y 3 = .pointer (some ⟨d, 0, none⟩) := (hd ⟨3, .data⟩ (by simp) rfl).2
      obtain ⟨e9, y9⟩ := hd ⟨9, .data⟩ (by simp) rfl
      have y9 : y 9 = .slice (some ⟨p, 0, none⟩) 2 2 := y9
      obtain ⟨hb3, hp⟩ := hI.pre hi'
      have HH := HPUT.out wx p (HD2.out.below hb3 (Nat.le_refl _)) (hp e9)
      refine slot_call #[.pointer (some ⟨d, 0, none⟩), .int .i64 0, .slice (some ⟨p, 0, none⟩) 2 2] rfl Try.func72 (by kernel_rfl) (by kernel_rfl) (by simp [Act.eval, y3, y9]) ?_
      refine HH.mono ?_
      rintro e w' ⟨rfl, hD', hF'⟩
      exact ⟨_, rfl, _, p, rfl, rfl, (fun j q _ _ hF => hF), hI.frm.trans hF', (fun e => by rw [upd_self] at e; cases e), fun _ => hD'⟩
  · rintro M p y wx hall hI
    have y14 : y 14 = .int .i64 0 := (hall 14 (by decide)).2
    dsimp only
    rw [y14]
    have hpost := hI.post (hall 10 (by decide)).1
    obtain ⟨w3, hw3⟩ : ∃ w3, w3 = wx := ⟨_, rfl⟩
    rw [← hw3] at hI hpost ⊢
    have HD3 := Lib.hid hpost
    have HF3 := Lib.hid hI.frm
    have LG3 := Lib.hid (LG2.out.keep (hI.frm.block lg LG2.out.lt NLG.out))
    clear hI hpost hall y14 hw3
    obtain ⟨c0, c1, c2, c3, c4⟩ := LG3.out.cells
    have fr1 : w3.frozen? ⟨lg, 1, none⟩ = false := frozen_of_row w3 lg 1 _ _ LG3.out
    have fr2 : w3.frozen? ⟨lg, 2, none⟩ = false := frozen_of_row w3 lg 2 _ _ LG3.out
    go_wp2_with fail
    have HC3 := Lib.hid (show w3.heap.size ≥ w.heap.size from Nat.le_trans HF2.out.size HF3.out.size)
    clear c0 c1 c2 c3 c4 fr1 fr2
    go_ret
    have f4 : Frm (fun q => q = lg) w3 ((w3.setCell ⟨lg, 1, none⟩ (.pointer (some ⟨r2, 0, none⟩))).setCell ⟨lg, 2, none⟩ (.int .u64 (b' : Int))) := ((Frm.refl (fun q => q = lg) w3).setCell (p := ⟨lg, 1, none⟩) (.inl rfl) _).setCell (p := ⟨lg, 2, none⟩) (.inl rfl) _
    have fall : Frm (fun q => q = lg ∨ own3 d g m q) w ((w3.setCell ⟨lg, 1, none⟩ (.pointer (some ⟨r2, 0, none⟩))).setCell ⟨lg, 2, none⟩ (.int .u64 (b' : Int))) := (((Frm.refl _ w).transT HF2.out (fun _ _ h => .inr h)).transT HF3.out (fun _ _ h => .inr h)).transT f4 (fun _ _ h => .inl h)
    have hlgd : lg ≠ d ∧ lg ≠ g ∧ lg ≠ m := ⟨fun e => NLG.out (.inl e), fun e => NLG.out (.inr (.inl e)), fun e => NLG.out (.inr (.inr e))⟩
    have q1 := HL.out.disk.dlt
    have q2 := HL.out.disk.glt
    have q3 := HL.out.disk.mlt
    have q4 := HL.out.lgat.lt
    have q5 := Z2.out
    have hR4 := (HR2.out.frame HF3.out (fun e => by rcases e with e | e | e <;> omega) (fun e => by rcases e with e | e | e <;> omega)).frame f4 (fun e => by omega) (fun e => by omega)
    have hD4 := HD3.out.frame f4 (fun e => hlgd.1 e.symm) (fun e => hlgd.2.1 e.symm) (fun e => hlgd.2.2 e.symm)
    exact ⟨rfl, r2, k2, S2, t2, X2, n1 + 1, ⟨(LG3.out.setRing r2).setBegin b', hR4, hD4, HX2.out, waitD_frame HL.out.wait HL.out.disk HL.out.lgat fall, HL.out.bas, HL.out.cnt, HL.out.few, ⟨by omega, fun e => by have := HL.out.wait.lt e; omega⟩⟩, by have := HN2.out; omega, q5.1, q5.2, fall⟩
end Go.Proofs.Ytdjpeebekpjiiaa.Dk
/- slices.Delete of batches that wait; how many of them fit. -/
namespace Go.Proofs.Ytdjpeebekpjiiaa.Dk
open Go Go.RowKit
set_option linter.unusedVariables false
set_option linter.unusedSimpArgs false
abbrev SlV := Option Addr × Nat × Nat
def encSl (x : SlV) : Value := .slice x.1 x.2.1 x.2.2
theorem encSl_one : OneCell encSl := fun _ => rfl
theorem sl_vals : ∀ vs : List Value, (∀ u ∈ vs, ∃ ao n c, u = .slice ao n c) → ∃ ss : List SlV, vs = ss.map encSl
  | [], _ => ⟨[], rfl⟩
  | v :: vs, h => by
    obtain ⟨ao, n, c, rfl⟩ := h v (List.mem_cons_self ..)
    obtain ⟨ss, rfl⟩ := sl_vals vs (fun u hu => h u (List.mem_cons_of_mem _ hu))
    exact ⟨(ao, n, c) :: ss, rfl⟩
theorem putRow_heap {w : World} {g : Nat} {cur : Array Value} {e : TypeId} {fr : Nat × Nat} (h : w.heap[g]? = some (.cells cur e fr)) (d : Array SlV) (hd : d.size ≤ cur.size) : ∃ cur', (Sort.putRow encSl w g 0 d).heap[g]? = some (.cells cur' e fr) ∧ cur'.size = cur.size ∧ cur'.toList.take d.size = d.toList.map encSl := by
  refine ⟨Sort.putCells encSl 0 d cur, ?_, ?_, ?_⟩
  · unfold Sort.putRow Sort.mapBlock
    simp only [Array.getElem?_modify, if_true, h, Option.map_some, Sort.onCells]
  · simp [Sort.putCells]
  · apply List.ext_getElem?
    intro k
    by_cases hk : k < d.size
    · rw [List.getElem?_take_of_lt hk, Array.getElem?_toList, List.getElem?_map, Array.getElem?_toList]
      unfold Sort.putCells
      rw [Array.getElem?_mapIdx, Array.getElem?_eq_getElem (by omega : k < cur.size), Array.getElem?_eq_getElem hk]
      simp only [Option.map_some]
      rw [if_pos (by omega), Nat.sub_zero, getElem!_pos d k hk]
    · rw [List.getElem?_eq_none (by simp; omega), List.getElem?_eq_none (by simp; omega)]
theorem putRow_frm {w : World} {g q : Nat} {d : Array SlV} : Frm (fun k => k = g) w (Sort.putRow encSl (Sort.ahead w q) g 0 d) := by
  refine ⟨rfl, rfl, rfl, by simp [Sort.ahead], fun k _ hk => ?_⟩
  unfold Sort.putRow Sort.mapBlock
  have hk2 : ¬ g = k := fun e => hk e.symm
  simp [Array.getElem?_modify, hk2, Sort.ahead]
theorem wdelete0 (ao : Option Addr) (m c : Nat) (hm : m ≤ c) (w : World) : Calls Try.prog 52 #[.slice ao m c, .int .i64 0, .int .i64 0] w fun e w' => e = .returned (.slice ao m c) ∧ w' = w := by
  have h1 : (0 : Int) ≤ (m : Int) := by omega
  have h2 : (m : Int) ≤ (c : Int) := by omega
  go_enter Try.func52, Try.ntmps52
  go_wp2_with fail
  all_goals (go_ret; exact ⟨rfl, rfl⟩)
theorem WaitD.cap {w : World} {B : Nat} {v : Value} {W : List (List UInt8)} (h : WaitD w B v W) : ∃ ao c, v = .slice ao W.length c ∧ W.length ≤ c := by
  obtain ⟨vs, h1, h2, h3⟩ := h
  rcases h2.2 with ⟨rfl, h0⟩ | ⟨g, cap, cur, rfl, hg, hh, hn, hc, hs, ht⟩
  · exact ⟨none, 0, by rw [h0], by omega⟩
  · exact ⟨_, cap, rfl, hn⟩
theorem wdelete_any {w : World} {B : Nat} {v : Value} {W : List (List UInt8)} (h : WaitD w B v W) {n : Nat} (hn : n ≤ W.length) :
    Calls Try.prog 52 #[v, .int .i64 0, .int .i64 (n : Int)] w fun e w' => ∃ ao' c', e = .returned (.slice ao' (W.drop n).length c') ∧ (Value.slice ao' (W.drop n).length c').ownBlock = v.ownBlock ∧ (W.drop n).length ≤ c' ∧ WaitD w' B (.slice ao' (W.drop n).length c') (W.drop n) ∧ Frm (fun q => some q = v.ownBlock) w w' := by
  by_cases h0 : n = 0
  · subst h0
    obtain ⟨ao, c, rfl, hc⟩ := h.cap
    refine (wdelete0 ao W.length c hc w).mono ?_
    rintro e w' ⟨rfl, rfl⟩
    exact ⟨ao, c, rfl, by cases ao <;> rfl, hc, h, Frm.refl _ _⟩
  · obtain ⟨vs, h1, h2, h3⟩ := h
    rcases h2.2 with ⟨rfl, h0⟩ | ⟨g, cap, cur, rfl, hg, hh, hnc, hcm, hs, ht⟩
    · omega
    · rw [Nat.mul_one] at ht hs
      obtain ⟨ss, hss⟩ := sl_vals vs (fun u hu => by
        obtain ⟨j, hj, rfl⟩ := List.mem_iff_getElem.1 hu
        obtain ⟨ao, c, he⟩ := own_slK (h3 j (W[j]'(by omega)) vs[j] (List.getElem?_eq_getElem (by omega)) (List.getElem?_eq_getElem hj)).1
        exact ⟨ao, _, c, he⟩)
      have hsl : ss.length = W.length := by rw [← h1, hss, List.length_map]
      obtain ⟨i0, hi0, hz0, hz1, hz2⟩ := info_parts Try.infoBytesW
      have hold : Sort.Holds encSl w g 0 ss.toArray := by
        intro j hj
        have hj' : j < ss.length := by simpa using hj
        have e1 : vs[j]? = some (encSl ss[j]) := by rw [hss, List.getElem?_map, List.getElem?_eq_getElem hj']; rfl
        rw [← ht, List.getElem?_take_of_lt (by omega), Array.getElem?_toList] at e1
        rw [Nat.zero_add, cell_of_row w g j _ _ _ hh, e1, frozen_of_row w g j _ _ hh, getElem!_pos ss.toArray j hj]
        exact ⟨rfl, rfl⟩
      have HH := Go.Proofs.AnyE.slices_Delete Try.deleteB encSl encSl_one (none, 0, 0) (fun w => Try.zeroValue37 w) i0 hi0 hz1 g 0 cap 0 n ss.toArray w hold (by simpa [hsl] using hnc) (by unfold maxLen at hcm; omega) (Nat.zero_le _) (by simpa [hsl] using hn)
      have hsz : ss.toArray.size = W.length := by simpa using hsl
      rw [hsz] at HH
      refine Calls.mono HH ?_
      rintro e w' ⟨rfl, q, rfl⟩
      obtain ⟨D, hD⟩ : ∃ D, D = (List.take 0 ss.toArray.toList ++ List.drop n ss.toArray.toList ++ List.replicate (n - 0) ((none, 0, 0) : SlV)).toArray := ⟨_, rfl⟩
      have hDl : D.toList = ss.drop n ++ List.replicate n (none, 0, 0) := by rw [hD]; simp
      have hDs : D.size = W.length := by rw [← Array.length_toList, hDl, List.length_append, List.length_drop, List.length_replicate]; omega
      have hdl : (W.drop n).length = W.length - n := List.length_drop
      obtain ⟨cur', e1, e2, e3⟩ := putRow_heap (w := Sort.ahead w q) (g := g) hh D (by omega)
      rw [hDs] at e3
      have fr := putRow_frm (w := w) (g := g) (q := q) (d := D)
      rw [← hD]
      obtain ⟨w2, hw2⟩ : ∃ w2, w2 = Sort.putRow encSl (Sort.ahead w q) g 0 D := ⟨_, rfl⟩
      rw [← hw2] at e1 fr ⊢
      have hvd : vs.drop n = (ss.drop n).map encSl := by rw [hss, List.map_drop]
      refine ⟨some ⟨g, 0, none⟩, cap, by rw [hdl, Nat.sub_zero], rfl, by omega, ⟨vs.drop n, by rw [List.length_drop, hdl, h1], ⟨by rw [List.length_drop, hdl, h1]; omega, .inr ⟨g, cap, cur', rfl, hg, e1, by omega, hcm, by rw [e2, hs, Nat.mul_one], ?_⟩⟩, ?_⟩, ?_⟩
      · have e4 : (cur'.toList.take W.length).take (W.length - n) = ((ss.drop n).map encSl) := by
          rw [e3, hDl, List.map_append, List.take_append_of_le_length (by rw [List.length_map, List.length_drop]; omega), List.take_of_length_le (by rw [List.length_map, List.length_drop]; omega)]
        rw [List.take_take, show min (W.length - n) W.length = W.length - n by omega] at e4
        rw [hdl, Nat.mul_one, e4, hvd]
      · intro j l u hl hu
        rw [List.getElem?_drop] at hl hu
        obtain ⟨q1, q2⟩ := h3 (n + j) l u hl hu
        refine ⟨own_keepK q1 fun b hb hlt => fr.block b hlt fun e => ?_, q2⟩
        rw [e] at hb
        exact own_neK q1 hh (by decide) hb.symm
      · have : (fun k => k = g) = (fun q => some q = (Value.slice (some (⟨g, 0, none⟩ : Addr)) W.length cap).ownBlock) := by
          funext k
          simp [Value.ownBlock]
        rw [← this]
        exact fr
/-- How many of the batches that wait fit. -/
def fitN (start room : Nat) : Nat → List (List UInt8) → Nat
  | _, [] => 0
  | e, l :: W => if e + restW e l.length + 9 + l.length - start ≤ room then 1 + fitN start room (e + (restW e l.length + 9 + l.length)) W else 0
def frs (k : Nat) (W : List (List UInt8)) : List Fm := W.map fun d => ⟨k, d⟩
theorem fitN_le (start room : Nat) : ∀ (W : List (List UInt8)) (e : Nat), fitN start room e W ≤ W.length
  | [], e => Nat.le_refl _
  | l :: W, e => by
    rw [fitN]
    have := fitN_le start room W (e + (restW e l.length + 9 + l.length))
    split
    · rw [List.length_cons]; omega
    · exact Nat.zero_le _
theorem frs_take_succ {W : List (List UInt8)} {j : Nat} {l : List UInt8} (k : Nat) (h : W[j]? = some l) : frs k (W.take (j + 1)) = frs k (W.take j) ++ [⟨k, l⟩] := by
  rw [List.take_add_one, h]
  simp [frs]
end Go.Proofs.Ytdjpeebekpjiiaa.Dk
