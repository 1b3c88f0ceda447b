/- Somebody has a task no more. -/
import Derived.Test.YtkmhbbcppjckiaaK0K
import Derived.Test.YtkmhbbcppjckiaaK0G
namespace Go.Proofs.Ytkmhbbcppjckiaa.Ma
open Go Go.RowKit Go.Proofs.Ytkmhbbcppjckiaa
open Go.Proofs.Ytkmhbbcppjckiaa.Hp (i64wf K3 wf3)
open Go.Proofs.Ytkmhbbcppjckiaa.Qu
open Go.Proofs.Ytkmhbbcppjckiaa.Dk (Frm below_drewN)
set_option linter.unusedVariables false
set_option linter.unusedSimpArgs false
set_option maxRecDepth 100000
variable {w w' : World} {b o : Nat} {R : Array Value} {ty : TypeId} {gv : Int} {mq : Nat → Option Nat} {Q : Nat → List Lk} {ao : Option Addr} {c : Nat} {E : List Ls}
theorem any_fil (p : Ls → Bool) (E : List Ls) : decide ((0 : Int) < ((E.filter p).length : Int)) = E.any p := by
  induction E with
  | nil => rfl
  | cons x E ih =>
    by_cases h : p x = true
    · simp [h]
    · simp only [List.filter_cons, if_neg h, List.any_cons, ih]; simp [h]
/-- What end leaves of a Match. -/
theorem ended_any (h : MtAt w b o R ty gv mq Q ao c E) (hn : E.length ≤ 1000) {g : Nat} {lb : Array Value} {p : Ls → Bool} (hp : Asks g lb p w) (eg : ∀ args w, (callFunc g args).run Try.prog w = .ok (.enter g args) w) :
    Calls Try.prog 57 #[.pointer (some ⟨b, o, none⟩), .func (.func g) #[] lb] w fun e w' => ∃ a1 c1 R' a2 c2, e = .returned (.slice a1 (E.filter p).length c1) ∧ LRow w' w.heap.size a1 c1 (E.filter p) ∧ MtAt w' b o R' ty gv mq Q a2 c2 (E.filter fun l => !p l) ∧ Frm (fun q => q = b) w w' :=
  (end_any h.row h.ls h.lrow hn hp eg).mono fun e w' ⟨a1, c1, a2, c2, e1, e2, e3, e4⟩ => ⟨a1, c1, _, a2, c2, e1, e2.one, h.leases e2.two e3 e4, e4⟩
theorem done_any (h : MtAt w b o R ty gv mq Q ao c E) (hn : E.length ≤ 1000) (k : Int) :
    Calls Try.prog 30 #[.pointer (some ⟨b, o, none⟩), .int .u64 k] w fun e w' => e = .returned (.bool (E.any fun l => decide (l.tok = k))) ∧ (∃ R' a2 c2, MtAt w' b o R' ty gv mq Q a2 c2 (E.filter fun l => !decide (l.tok = k))) ∧ Frm (fun q => q = b) w w' := by
  obtain ⟨w1, hw1⟩ : ∃ x, x = w.alloc (.cells #[.int .u64 k] 62) := ⟨_, rfl⟩
  obtain ⟨g, hg⟩ : ∃ g, g = w.heap.size := ⟨_, rfl⟩
  have b1 : Below w.heap.size w w1 := by rw [hw1]; exact (Below.refl _ _).alloc (Nat.le_refl _) _
  have n1 : w1.heap[g]? = some (.cells #[.int .u64 k] 62 (0, 0)) := by rw [hw1, hg]; exact heap_alloc_new _ _
  have BT := Lib.hid (byToken_any k w)
  rw [← hw1, ← hg] at BT
  obtain ⟨p, hp⟩ : ∃ p : Ls → Bool, p = fun l => decide (l.tok = k) := ⟨_, rfl⟩
  have AS : Asks 70 #[.pointer (some ⟨g, 0, none⟩)] p w1 := by rw [hp]; exact asks_tok n1
  have EN := Lib.hid (ended_any (h.below b1) hn AS (enters_of Try.func70 (by kernel_rfl) rfl))
  have HA := Lib.hid (any_fil p E)
  obtain ⟨N, hN⟩ : ∃ N, N = (E.filter p).length := ⟨_, rfl⟩
  rw [← hN] at HA EN
  show Calls Try.prog 30 _ w fun e w' => e = .returned (.bool (E.any fun l => (fun l : Ls => decide (l.tok = k)) l)) ∧ (∃ R' a2 c2, MtAt w' b o R' ty gv mq Q a2 c2 (E.filter fun l => !(fun l : Ls => decide (l.tok = k)) l)) ∧ Frm (fun q => q = b) w w'
  rw [← hp]
  obtain ⟨A, hA⟩ : ∃ A, A = E.any p := ⟨_, rfl⟩
  rw [← hA] at HA
  show Calls Try.prog 30 _ w fun e w' => e = .returned (.bool (E.any p)) ∧ (∃ R' a2 c2, MtAt w' b o R' ty gv mq Q a2 c2 (E.filter fun l => !p l)) ∧ Frm (fun q => q = b) w w'
  rw [← hA]
  have B1 := Lib.hid b1
  clear h hn hw1 hg b1 n1 hp hA hN AS
  go_enter Try.func30, Try.ntmps30
  go_wp2_with (first
    | (with_reducible refine BT.out.mono ?_; rintro e w5 ⟨rfl, rfl⟩)
    | (with_reducible refine EN.out.mono ?_; rintro e w6 ⟨a1, c1, R', a2, c2, rfl, hl, hm, hf⟩; have HM := Lib.hid hm; have HFr := Lib.hid hf; clear hl hm hf))
  go_ret
  refine ⟨?_, ⟨R', a2, c2, HM.out⟩, (Frm.of_below B1.out (Nat.le_refl _)).trans HFr.out⟩
  have e : decide (0 < N) = A := by rw [← HA.out]; simp
  exact congrArg (fun z => Ending.returned (.bool z)) e
end Go.Proofs.Ytkmhbbcppjckiaa.Ma
/- A Match in memory, told by its tasks and leases alone; its queues' calls. -/
namespace Go.Proofs.Ytkmhbbcppjckiaa.Ma
open Go Go.RowKit Go.Proofs.Ytkmhbbcppjckiaa
open Go.Proofs.Ytkmhbbcppjckiaa.Hp (i64wf K3 wf3)
open Go.Proofs.Ytkmhbbcppjckiaa.Qu
open Go.Proofs.Ytkmhbbcppjckiaa.Dk (Frm below_drewN)
set_option linter.unusedVariables false
set_option linter.unusedSimpArgs false
set_option maxRecDepth 100000
/-- What a Match holds: how many tokens were given, who waits for whom, who has what. -/
structure MM where
  giv : Int
  W : Nat → List Tk
  E : List Ls
/-- A Match at place o of the row at b: it holds just this; its blocks are some of T; the row's other cells are those of R0. -/
def MT (w : World) (T : Nat → Prop) (b o : Nat) (R0 : Array Value) (ty : TypeId) (M : MM) : Prop :=
  ∃ R mq Q ao c, MtAt w b o R ty M.giv mq Q ao c M.E ∧ (∀ k, k < 65 → (Q k).map Lk.tk = M.W k) ∧ (∀ i, i < o ∨ o + 197 ≤ i → R[i]? = R0[i]?) ∧ (∀ k, k < 65 → ∀ q, own b (mq k) (Q k) q → T q) ∧ (∀ q, (Value.slice ao M.E.length c).ownBlock = some q → T q)
variable {w w' : World} {T : Nat → Prop} {b o : Nat} {R0 : Array Value} {ty : TypeId} {M M' : MM}
theorem MT.mono {T' : Nat → Prop} (h : MT w T b o R0 ty M) (hT : ∀ q, T q → T' q) : MT w T' b o R0 ty M := by
  obtain ⟨R, mq, Q, ao, c, h1, h2, h3, h4, h5⟩ := h
  exact ⟨R, mq, Q, ao, c, h1, h2, h3, fun k hk q hq => hT q (h4 k hk q hq), fun q hq => hT q (h5 q hq)⟩
theorem MtAt.keep {R : Array Value} {gv : Int} {mq : Nat → Option Nat} {Q : Nat → List Lk} {ao : Option Addr} {c : Nat} {E : List Ls} (h : MtAt w b o R ty gv mq Q ao c E) (hb : w'.heap[b]? = w.heap[b]?) (hk : ∀ k, k < 65 → ∀ q, own b (mq k) (Q k) q → w'.heap[q]? = w.heap[q]?) (hl : ∀ q, (Value.slice ao E.length c).ownBlock = some q → w'.heap[q]? = w.heap[q]?) : MtAt w' b o R ty gv mq Q ao c E :=
  ⟨hb.trans h.row, h.given, fun k hk' => (h.qs k hk').keep fun q hq => hk k hk' q hq, h.apart, h.ls, own_keepK h.lrow fun q hq _ => hl q hq, h.lapart⟩
theorem MtAt.tb {R : Array Value} {gv : Int} {mq : Nat → Option Nat} {Q : Nat → List Lk} {ao : Option Addr} {c : Nat} {E : List Ls} (h : MtAt w b o R ty gv mq Q ao c E) : own b (mq 0) (Q 0) b := .inl rfl
theorem MT.keep (h : MT w T b o R0 ty M) (hk : ∀ q, T q → q < w.heap.size → w'.heap[q]? = w.heap[q]?) : MT w' T b o R0 ty M := by
  obtain ⟨R, mq, Q, ao, c, h1, h2, h3, h4, h5⟩ := h
  exact ⟨R, mq, Q, ao, c, h1.keep (hk b (h4 0 (by decide) b h1.tb) (lt_of_rowK h1.row)) (fun k hk' q hq => hk q (h4 k hk' q hq) ((h1.qs k hk').lt hq)) (fun q hq => hk q (h5 q hq) (own_ltK h1.lrow hq)), h2, h3, h4, h5⟩
theorem MT.below (h : MT w T b o R0 ty M) (hb : Below w.heap.size w w') : MT w' T b o R0 ty M := h.keep fun q _ hq => hb.block q hq
theorem MT.lt (h : MT w T b o R0 ty M) : b < w.heap.size := by
  obtain ⟨R, mq, Q, ao, c, h1, _⟩ := h
  exact lt_of_rowK h1.row
theorem MT.few (h : MT w T b o R0 ty M) {k : Nat} (hk : k < 65) : (M.W k).length ≤ 128 := by
  obtain ⟨R, mq, Q, ao, c, h1, h2, _⟩ := h
  rw [← h2 k hk, List.length_map]
  exact (h1.qs k hk).few
theorem MT.nodup (h : MT w T b o R0 ty M) {k : Nat} (hk : k < 65) : (keysT (M.W k)).Nodup := by
  obtain ⟨R, mq, Q, ao, c, h1, h2, _⟩ := h
  rw [← keys_of (h2 k hk)]
  exact (h1.qs k hk).keys
theorem MT.wf (h : MT w T b o R0 ty M) {k : Nat} (hk : k < 65) : ∀ x ∈ M.W k, wf3 x.1 ∧ i64wf x.2 := by
  obtain ⟨R, mq, Q, ao, c, h1, h2, _⟩ := h
  rw [← h2 k hk]
  intro x hx
  obtain ⟨y, hy, rfl⟩ := List.mem_map.1 hx
  exact (h1.qs k hk).wf y hy
/-- What a Match holds, of which one queue is another one. -/
def MM.q (M : MM) (k : Nat) (W : List Tk) : MM := ⟨M.giv, updQ M.W k W, M.E⟩
def MM.l (M : MM) (E : List Ls) : MM := ⟨M.giv, M.W, E⟩
/-- How a call leaves a Match: its blocks are the old ones, or new ones. -/
def MPost (w : World) (T : Nat → Prop) (b o : Nat) (R0 : Array Value) (ty : TypeId) (M : MM) (w' : World) : Prop := Frm T w w' ∧ ∃ T', MT w' T' b o R0 ty M ∧ (∀ q, T' q → (T q ∨ w.heap.size ≤ q) ∧ q < w'.heap.size)
theorem MPost.trans {w1 : World} (h : MPost w T b o R0 ty M w1) (h2 : ∀ T', MT w1 T' b o R0 ty M → MPost w1 T' b o R0 ty M' w') : MPost w T b o R0 ty M' w' := by
  obtain ⟨hF, T1, hM, hT⟩ := h
  obtain ⟨hF2, T2, hM2, hT2⟩ := h2 T1 hM
  refine ⟨hF.transT hF2 fun q hq h1 => ?_, T2, hM2, fun q hq => ⟨?_, (hT2 q hq).2⟩⟩
  · rcases (hT q h1).1 with h | h
    · exact h
    · omega
  · rcases (hT2 q hq).1 with h | h
    · exact (hT q h).1
    · exact .inr (Nat.le_trans hF.size h)
theorem MT.lts (h : MT w T b o R0 ty M) : MT w (fun q => T q ∧ q < w.heap.size) b o R0 ty M := by
  obtain ⟨R, mq, Q, ao, c, h1, h2, h3, h4, h5⟩ := h
  exact ⟨R, mq, Q, ao, c, h1, h2, h3, fun k hk q hq => ⟨h4 k hk q hq, (h1.qs k hk).lt hq⟩, fun q hq => ⟨h5 q hq, own_ltK h1.lrow hq⟩⟩
theorem MPost.same (h : MT w T b o R0 ty M) (hb : Below w.heap.size w w') : MPost w T b o R0 ty M w' := by
  refine ⟨Frm.of_below hb (Nat.le_refl _), _, (h.below hb).lts, fun q hq => ⟨.inl hq.1, hq.2⟩⟩
theorem MPost.then {w1 : World} (h : MPost w T b o R0 ty M w1) (hb : Below w1.heap.size w1 w') : MPost w T b o R0 ty M w' := h.trans fun T' h' => .same h' hb
theorem MPost.first {w1 : World} (hb : Below w.heap.size w w1) (h : MPost w1 T b o R0 ty M w') (h0 : ∀ q, T q → q < w.heap.size) : MPost w T b o R0 ty M w' := by
  obtain ⟨hF, T', hM, hT⟩ := h
  refine ⟨(Frm.of_below hb (Nat.le_refl _)).trans hF, T', hM, fun q hq => ⟨?_, (hT q hq).2⟩⟩
  rcases (hT q hq).1 with h | h
  · exact .inl h
  · exact .inr (Nat.le_trans hb.size h)
theorem MPost.first' {w1 : World} (hb : Below w.heap.size w w1) (h : MPost w1 T b o R0 ty M w') : MPost w T b o R0 ty M w' := by
  obtain ⟨hF, T', hM, hT⟩ := h
  refine ⟨(Frm.of_below hb (Nat.le_refl _)).trans hF, T', hM, fun q hq => ⟨?_, (hT q hq).2⟩⟩
  rcases (hT q hq).1 with h | h
  · exact .inl h
  · exact .inr (Nat.le_trans hb.size h)
/-- One queue of a Match: what is turned of it is turned of the Match. -/
theorem MT.queue (h : MT w T b o R0 ty M) {k : Nat} (hk : k < 65) : ∃ R mo L, QAt w b (qo o k) R ty mo L ∧ L.map Lk.tk = M.W k ∧ ∀ w' mo' L', QAt w' b (qo o k) R ty mo' L' → Frm (own b mo L) w w' → (∀ q, own b mo' L' q → own b mo L q ∨ w.heap.size ≤ q) → MPost w T b o R0 ty (M.q k (L'.map Lk.tk)) w' := by
  obtain ⟨R, mq, Q, ao, c, h1, h2, h3, h4, h5⟩ := h
  refine ⟨R, mq k, Q k, h1.qs k hk, h2 k hk, fun w' mo' L' hq hf hn => ?_⟩
  have hm := h1.queue hk hq hf hn
  have hF : Frm T w w' := hf.mono fun q _ hq => h4 k hk q hq
  refine ⟨hF, fun q => (T q ∨ w.heap.size ≤ q) ∧ q < w'.heap.size, ⟨_, _, _, ao, c, hm, fun j hj => ?_, fun i hi => ?_, fun j hj q hq => ⟨?_, (hm.qs j hj).lt hq⟩, fun q hq => ⟨.inl (h5 q hq), own_ltK hm.lrow hq⟩⟩, fun q hq => hq⟩
  · unfold MM.q updQ
    dsimp only
    split
    · rfl
    · exact h2 j hj
  · rw [qrow_out (by unfold qo; omega)]
    exact h3 i hi
  · by_cases e : j = k
    · subst e
      rw [updQ_self, updQ_self] at hq
      rcases hn q hq with h | h
      · exact .inl (h4 j hj q h)
      · exact .inr h
    · rw [updQ_ne _ _ e, updQ_ne _ _ e] at hq
      exact .inl (h4 j hj q hq)
/-- How a queue's call leaves it, wherever it stands. -/
def QTold (w : World) (b o : Nat) (R : Array Value) (ty : TypeId) (mo : Option Nat) (L : List Lk) (W : List Tk) (w' : World) : Prop := ∃ mo' L', QAt w' b o R ty mo' L' ∧ L'.map Lk.tk = W ∧ Frm (own b mo L) w w' ∧ ∀ q, own b mo' L' q → own b mo L q ∨ w.heap.size ≤ q
theorem QTold.same {R : Array Value} {mo : Option Nat} {L : List Lk} (h : QAt w b o R ty mo L) (hb : Below w.heap.size w w') : QTold w b o R ty mo L (L.map Lk.tk) w' := ⟨mo, L, h.below hb, rfl, Frm.of_below hb (Nat.le_refl _), fun q hq => .inl hq⟩
theorem qadd_told {R : Array Value} {mo : Option Nat} {L : List Lk} (h1 : QAt w b o R ty mo L) (k : K3) (hk : wf3 k) (now : Int) (hnow : i64wf now) : Calls Try.prog 14 #[.pointer (some ⟨b, o, none⟩), .agg (kcs k).toArray, .int .i64 now] w fun e w' => e = .returned (.int .i64 (addR (L.map Lk.tk) k)) ∧ QTold w b o R ty mo L (addW (L.map Lk.tk) k now) w' := by
  obtain ⟨W, h2⟩ : ∃ W, L.map Lk.tk = W := ⟨_, rfl⟩
  have hlen : W.length = L.length := by rw [← h2, List.length_map]
  rw [h2]
  by_cases hin : (keysT W).contains k = true
  · have hR : addR W k = 5 := by unfold addR; rw [if_pos hin]
    have hW : addW W k now = W := by unfold addW; rw [hR]; rfl
    rw [hR, hW]
    refine (qadd_twice h1 k hk now ?_).mono ?_
    · intro hno
      rw [← keys_of h2, ← adOf_in, hno] at hin
      cases hin
    · rintro e w' ⟨he, hb⟩
      exact ⟨he, by rw [← h2]; exact .same h1 hb⟩
  · have hno : adOf L k = none := by
      rw [← keys_of h2, ← adOf_in] at hin
      cases hA : adOf L k with
      | none => rfl
      | some a => rw [hA] at hin; exact absurd rfl hin
    by_cases hf : L.length = 128
    · have hR : addR W k = 3 := by unfold addR; rw [if_neg hin, hlen, if_pos hf]
      have hW : addW W k now = W := by unfold addW; rw [hR]; rfl
      rw [hR, hW]
      refine (qadd_full h1 k hk now hno hf).mono ?_
      rintro e w' ⟨he, hb⟩
      exact ⟨he, by rw [← h2]; exact .same h1 hb⟩
    · have hR : addR W k = 0 := by unfold addR; rw [if_neg hin, hlen, if_neg hf]
      have hW : addW W k now = W ++ [(k, now)] := by unfold addW; rw [hR]; rfl
      rw [hR, hW]
      refine (qadd_ok h1 k hk now hnow hno (by have := h1.few; omega)).mono ?_
      rintro e w' ⟨p, mo', he, hp, hQ, hF, hm⟩
      refine ⟨he, _, _, hQ, by rw [List.map_append, h2]; rfl, hF, ?_⟩
      rintro q (e | e | ⟨x, hx, e⟩)
      · exact .inl (.inl e)
      · rcases hm q e with h | h
        · exact .inl (.inr (.inl h))
        · exact .inr h
      · rcases List.mem_append.1 hx with hx | hx
        · exact .inl (.inr (.inr ⟨x, hx, e⟩))
        · rw [List.mem_singleton.1 hx] at e
          exact .inr (by rw [← e]; exact hp)
theorem qremove_told {R : Array Value} {mo : Option Nat} {L : List Lk} (h1 : QAt w b o R ty mo L) (k : K3) (hk : wf3 k) : Calls Try.prog 17 #[.pointer (some ⟨b, o, none⟩), .agg (kcs k).toArray] w fun e w' => e = .returned (.bool ((keysT (L.map Lk.tk)).contains k)) ∧ QTold w b o R ty mo L (remW (L.map Lk.tk) k) w' := by
  obtain ⟨W, h2⟩ : ∃ W, L.map Lk.tk = W := ⟨_, rfl⟩
  have hnd := h1.keys
  rw [keys_of h2] at hnd
  rw [h2, ← keys_of h2, ← adOf_in]
  cases hA : adOf L k with
  | none =>
    have hno : k ∉ keysT W := by
      rw [← keys_of h2]
      intro hm
      obtain ⟨x, hx, e⟩ := List.mem_map.1 hm
      exact adOf_none.1 hA x hx e
    rw [remW_no hno]
    refine (qremove_no h1 k hk hA).mono ?_
    rintro e w' ⟨he, hb⟩
    exact ⟨he, by rw [← h2]; exact .same h1 hb⟩
  | some a =>
    obtain ⟨A, x, B, rfl, rfl, _⟩ := adOf_some hA
    refine (qremove_yes h1).mono ?_
    rintro e w' ⟨he, hQ, hF⟩
    refine ⟨he, _, _, hQ, ?_, hF, ?_⟩
    · subst h2
      have e : (A ++ x :: B).map Lk.tk = A.map Lk.tk ++ x.tk :: B.map Lk.tk := by simp
      rw [e] at hnd ⊢
      rw [show x.key = x.tk.1 from rfl, remW_mid hnd, List.map_append]
    · rintro q (e | e | ⟨y, hy, e⟩)
      · exact .inl (.inl e)
      · exact .inl (.inr (.inl e))
      · exact .inl (.inr (.inr ⟨y, by rcases List.mem_append.1 hy with hy | hy <;> simp [hy], e⟩))
theorem qdrop_told {R : Array Value} {mo : Option Nat} {L : List Lk} (h1 : QAt w b o R ty mo L) (run : Int) : Calls Try.prog 18 #[.pointer (some ⟨b, o, none⟩), .int .i64 run] w fun e w' => e = .returned (.int .i64 (cntW run (L.map Lk.tk) : Int)) ∧ QTold w b o R ty mo L (othW run (L.map Lk.tk)) w' := by
  have e1 : cntW run (L.map Lk.tk) = cnt run L := by
    unfold cntW cnt
    rw [List.filter_map, List.length_map]
    rfl
  have e2 : othW run (L.map Lk.tk) = (oth run L).map Lk.tk := by
    unfold othW oth
    rw [List.filter_map]
    rfl
  rw [e1, e2]
  refine (qdrop_any h1 run).mono ?_
  rintro e w' ⟨he, hQ, hF⟩
  refine ⟨he, _, _, hQ, rfl, hF, ?_⟩
  rintro q (e | e | ⟨z, hz, e⟩)
  · exact .inl (.inl e)
  · exact .inl (.inr (.inl e))
  · exact .inl (.inr (.inr ⟨z, (List.mem_filter.1 hz).1, e⟩))
/-- The calls of a Match's k-th queue. -/
theorem mq_add (h : MT w T b o R0 ty M) {j : Nat} (hj : j < 65) (k : K3) (hk : wf3 k) (now : Int) (hnow : i64wf now) : Calls Try.prog 14 #[.pointer (some ⟨b, qo o j, none⟩), .agg (kcs k).toArray, .int .i64 now] w fun e w' => e = .returned (.int .i64 (addR (M.W j) k)) ∧ MPost w T b o R0 ty (M.q j (addW (M.W j) k now)) w' := by
  obtain ⟨R, mo, L, h1, h2, h3⟩ := h.queue hj
  rw [← h2]
  refine (qadd_told h1 k hk now hnow).mono ?_
  rintro e w' ⟨he, mo', L', g1, g2, g3, g4⟩
  exact ⟨he, by rw [← g2]; exact h3 w' mo' L' g1 g3 g4⟩
theorem mq_remove (h : MT w T b o R0 ty M) {j : Nat} (hj : j < 65) (k : K3) (hk : wf3 k) : Calls Try.prog 17 #[.pointer (some ⟨b, qo o j, none⟩), .agg (kcs k).toArray] w fun e w' => e = .returned (.bool ((keysT (M.W j)).contains k)) ∧ MPost w T b o R0 ty (M.q j (remW (M.W j) k)) w' := by
  obtain ⟨R, mo, L, h1, h2, h3⟩ := h.queue hj
  rw [← h2]
  refine (qremove_told h1 k hk).mono ?_
  rintro e w' ⟨he, mo', L', g1, g2, g3, g4⟩
  exact ⟨he, by rw [← g2]; exact h3 w' mo' L' g1 g3 g4⟩
theorem mq_drop (h : MT w T b o R0 ty M) {j : Nat} (hj : j < 65) (run : Int) : Calls Try.prog 18 #[.pointer (some ⟨b, qo o j, none⟩), .int .i64 run] w fun e w' => e = .returned (.int .i64 (cntW run (M.W j) : Int)) ∧ MPost w T b o R0 ty (M.q j (othW run (M.W j))) w' := by
  obtain ⟨R, mo, L, h1, h2, h3⟩ := h.queue hj
  rw [← h2]
  refine (qdrop_told h1 run).mono ?_
  rintro e w' ⟨he, mo', L', g1, g2, g3, g4⟩
  exact ⟨he, by rw [← g2]; exact h3 w' mo' L' g1 g3 g4⟩
theorem mq_list (h : MT w T b o R0 ty M) {j : Nat} (hj : j < 65) : Calls Try.prog 19 #[.pointer (some ⟨b, qo o j, none⟩)] w fun e w' =>
    ∃ ao c, e = .returned (.slice ao (M.W j).length c) ∧ w'.ownsRow w.heap.size 32 3 (.slice ao (M.W j).length c) (M.W j).length (kss (keysT (M.W j))) ∧ Below w.heap.size w w' := by
  obtain ⟨R, mo, L, h1, h2, h3⟩ := h.queue hj
  have hlen : (M.W j).length = L.length := by rw [← h2, List.length_map]
  rw [hlen, ← keys_of h2]
  exact qlist_any h1.c (by have := h1.few; omega)
theorem mq_since (h : MT w T b o R0 ty M) {j : Nat} (hj : j < 65) (k : K3) (hk : wf3 k) : Calls Try.prog 21 #[.pointer (some ⟨b, qo o j, none⟩), .agg (kcs k).toArray] w fun e w' =>
    (k ∉ keysT (M.W j) ∧ e = .returned (.tuple #[.int .i64 0, .bool false]) ∨ ∃ s, (k, s) ∈ M.W j ∧ e = .returned (.tuple #[.int .i64 s, .bool true])) ∧ Below w.heap.size w w' := by
  obtain ⟨R, mo, L, h1, h2, h3⟩ := h.queue hj
  have h := qsince_any h1 k hk
  rw [kv_eq] at h
  refine h.mono ?_
  rintro e w' ⟨h | ⟨x, hx, rfl, he⟩, hb⟩
  · refine ⟨.inl ⟨?_, h.2⟩, hb⟩
    rw [← keys_of h2]
    intro hm
    obtain ⟨x, hx, e⟩ := List.mem_map.1 hm
    exact adOf_none.1 h.1 x hx e
  · exact ⟨.inr ⟨x.since, by rw [← h2]; exact List.mem_map.2 ⟨x, hx, rfl⟩, he⟩, hb⟩
/-- Who waits for whom, told by the tasks. -/
def whW (W : Nat → List Tk) (k : K3) : Nat → Nat → Int × Bool
  | 0, _ => (0, false)
  | n + 1, i => if (keysT (W i)).contains k = true then ((i : Int), true) else whW W k n (i + 1)
def MM.wh (M : MM) (k : K3) : Int × Bool := whW M.W k 65 0
theorem whG_W {Q : Nat → List Lk} {W : Nat → List Tk} (h2 : ∀ k, k < 65 → (Q k).map Lk.tk = W k) (k : K3) : ∀ n i, n + i = 65 → whG Q k n i = whW W k n i
  | 0, i, h => rfl
  | n + 1, i, h => by
    rw [whG, whW, adOf_in, keys_of (h2 i (by omega)), whG_W h2 k n (i + 1) (by omega)]
theorem mt_where (h : MT w T b o R0 ty M) (k : K3) (hk : wf3 k) : Calls Try.prog 63 #[.pointer (some ⟨b, o, none⟩), .agg (kcs k).toArray] w fun e w' => e = .returned (.tuple #[.int .i64 (M.wh k).1, .bool (M.wh k).2]) ∧ Below w.heap.size w w' := by
  obtain ⟨R, mq, Q, ao, c, h1, h2, h3, h4, h5⟩ := h
  have h := where_any h1 k hk
  rwa [show whQ Q k = M.wh k from whG_W h2 k 65 0 rfl] at h
/-- Leases are taken away. -/
theorem MT.leases (h : MT w T b o R0 ty M) {w' : World} {R' : Array Value} {E' : List Ls} (hx : ∀ R mq Q ao c, MtAt w b o R ty M.giv mq Q ao c M.E → ∃ a' c', MtAt w' b o (R.setIfInBounds (o + 196) (.slice a' E'.length c')) ty M.giv mq Q a' c' E' ∧ LRow w' w.heap.size a' c' E') (hf : Frm (fun q => q = b) w w') : MPost w T b o R0 ty (M.l E') w' := by
  obtain ⟨R, mq, Q, ao, c, h1, h2, h3, h4, h5⟩ := h
  obtain ⟨a', c', g1, g2⟩ := hx R mq Q ao c h1
  refine ⟨hf.mono fun q _ e => by rw [e]; exact h4 0 (by decide) b h1.tb, fun q => (T q ∨ w.heap.size ≤ q) ∧ q < w'.heap.size, ⟨_, mq, Q, a', c', g1, h2, fun i hi => ?_, fun k hk q hq => ⟨.inl (h4 k hk q hq), (g1.qs k hk).lt hq⟩, fun q hq => ⟨.inr ((g2.lt q hq).1), (g2.lt q hq).2⟩⟩, fun q hq => hq⟩
  rw [Array.getElem?_setIfInBounds_ne (by omega)]
  exact h3 i hi
end Go.Proofs.Ytkmhbbcppjckiaa.Ma
/- The first task of a kind that waits for a worker. -/
namespace Go.Proofs.Ytkmhbbcppjckiaa.Ma
open Go Go.RowKit Go.Proofs.Ytkmhbbcppjckiaa
open Go.Proofs.Ytkmhbbcppjckiaa.Hp (i64wf K3 wf3)
open Go.Proofs.Ytkmhbbcppjckiaa.Qu
open Go.Proofs.Ytkmhbbcppjckiaa.Dk (Frm below_drewN)
set_option linter.unusedVariables false
set_option linter.unusedSimpArgs false
set_option maxRecDepth 100000
variable {w w' : World} {T : Nat → Prop} {b o : Nat} {R0 : Array Value} {ty : TypeId} {M : MM}
/-- The first one of a kind, or none. -/
def fiK (kind : Int) : List K3 → K3 × Bool
  | [] => (k0, false)
  | k :: l => if k.2.1 = kind then (k, true) else fiK kind l
theorem fiK_mem {kind : Int} : ∀ {l : List K3} {k : K3}, fiK kind l = (k, true) → k ∈ l ∧ k.2.1 = kind
  | [], k, h => by simp [fiK] at h
  | x :: l, k, h => by
    rw [fiK] at h
    split at h
    · rename_i hx
      obtain ⟨rfl, _⟩ := Prod.mk.inj h
      exact ⟨by simp, hx⟩
    · have := fiK_mem h
      exact ⟨by simp [this.1], this.2⟩
theorem fiK_none {kind : Int} : ∀ {l : List K3} {k : K3}, fiK kind l = (k, false) → k = k0 ∧ ∀ x ∈ l, x.2.1 ≠ kind
  | [], k, h => by
    obtain ⟨rfl, _⟩ := Prod.mk.inj h
    exact ⟨rfl, by simp⟩
  | x :: l, k, h => by
    rw [fiK] at h
    split at h
    · obtain ⟨_, h⟩ := Prod.mk.inj h
      cases h
    · rename_i hx
      have := fiK_none h
      refine ⟨this.1, fun y hy => ?_⟩
      rcases List.mem_cons.1 hy with rfl | hy
      · exact hx
      · exact this.2 y hy
theorem dropK {α : Type} {L : List α} {i : Nat} {x : α} (h : L[i]? = some x) : L.drop i = x :: L.drop (i + 1) := by
  have hl := (List.getElem?_eq_some_iff.1 h).1
  rw [List.drop_eq_getElem_cons hl]
  have := (List.getElem?_eq_some_iff.1 h).2
  rw [this]
def fiRel (w : World) (kind : Int) (L : List K3) (iv : Value) (wr : World) : Prop := ∃ i : Nat, i ≤ L.length ∧ iv = .int .i64 (i : Int) ∧ fiK kind (L.drop i) = fiK kind L ∧ Below w.heap.size w wr
set_option maxHeartbeats 1000000 in
theorem mt_first (h : MT w T b o R0 ty M) {j : Nat} (hj : j < 65) (kind : Int) : Calls Try.prog 68 #[.pointer (some ⟨b, o, none⟩), .int .i64 (j : Int), .int .i64 kind] w fun e w' => e = .returned (.tuple #[.agg (kcs (fiK kind (keysT (M.W j))).1).toArray, .bool (fiK kind (keysT (M.W j))).2]) ∧ Below w.heap.size w w' := by
  obtain ⟨w2, hw2⟩ : ∃ w2, w2 = w.alloc (.cells (kcs k0).toArray 32) := ⟨_, rfl⟩
  obtain ⟨g, hg⟩ : ∃ g, g = w.heap.size := ⟨_, rfl⟩
  have b2 : Below w.heap.size w w2 := by rw [hw2]; exact (Below.refl _ _).alloc (Nat.le_refl _) _
  have n2 : w2.heap[g]? = some (.cells (kcs k0).toArray 32 (0, 0)) := by rw [hw2, hg]; exact heap_alloc_new _ _
  have TH := Lib.hid (show Calls Try.prog 19 #[.pointer (some ⟨b, o + 1 + j * 3, none⟩)] w2 fun e w' => ∃ ao c, e = .returned (.slice ao (M.W j).length c) ∧ w'.ownsRow w2.heap.size 32 3 (.slice ao (M.W j).length c) (M.W j).length (kss (keysT (M.W j))) ∧ Below w2.heap.size w2 w' from by
    have e : o + 1 + j * 3 = qo o j := by unfold qo; omega
    rw [e]
    exact mq_list (h.below b2) hj)
  obtain ⟨L, hL⟩ : ∃ L, L = keysT (M.W j) := ⟨_, rfl⟩
  have hlen : (M.W j).length = L.length := by rw [hL]; simp [keysT]
  obtain ⟨n, hn⟩ : ∃ n, n = L.length := ⟨_, rfl⟩
  have h128 : n ≤ 128 := by rw [hn, ← hlen]; exact h.few hj
  rw [← hL, hlen, ← hn] at TH
  obtain ⟨F, hF⟩ : ∃ F, F = fiK kind L := ⟨_, rfl⟩
  rw [← hL, ← hF]
  have SZ := Lib.hid (show ∀ k : K3, (Try.prog.info? 32).map (·.size) = some (kcs k).toArray.size from fun k => by kernel_rfl)
  have HN := Lib.hid hn
  have HF := Lib.hid hF
  have HW2 := Lib.hid hw2
  have HG := Lib.hid hg
  have B2 := Lib.hid b2
  have N2 := Lib.hid n2
  have hj0 : (0 : Int) ≤ (j : Int) := by omega
  have hj2 : (j : Int) < 65 := by omega
  clear h hL hlen hn hF hw2 hg b2 n2
  go_enter Try.func68, Try.ntmps68
  go_upto_region 1 with fail
  rw [show (#[.int .i64 0, .int .i64 0, .int .i64 0] : Array Value) = (kcs k0).toArray from rfl, ← HW2.out, ← HG.out]
  go_wp2_with (first
    | (with_reducible refine TH.out.mono ?_; rintro e w3 ⟨at1, ct, rfl, hown1, hb1⟩; have HO1 := Lib.hid hown1; have HB1 := Lib.hid (B2.out.trans (hb1.mono B2.out.size)); have N3 := Lib.hid ((hb1.block g (lt_of_rowW N2.out)).trans N2.out); clear hown1 hb1))
  go_loopw [17] (fun iv wr => fiRel w3 kind L iv wr) (fun iv _ => n - (intOf iv).toNat)
  case atStart => exact ⟨0, Nat.zero_le _, rfl, rfl, Below.refl _ _⟩
  case round =>
    obtain ⟨wq, rfl⟩ : ∃ wq : World, wq = wr := ⟨_, rfl⟩
    obtain ⟨i, hi, rfl, hfd, hb⟩ := hrel
    by_cases hin : i < n
    · have hiL : i < L.length := by rw [← HN.out]; exact hin
      obtain ⟨x, hx⟩ : ∃ x, L[i]? = some x := ⟨_, List.getElem?_eq_getElem hiL⟩
      obtain ⟨gp, hgp, _, hglt, _⟩ := own_cellK HO1.out (kss_at _ i x hx 0 _ rfl)
      subst hgp
      have KX : ∀ j v, (kcs x)[j]? = some v → wq.cell? ((⟨gp, i * 3, none⟩ : Addr).add j) = some v := by
        intro j v hj
        obtain ⟨g2, e2, hge, hlt, hc⟩ := own_cellK HO1.out (kss_at _ i x hx j v hj)
        injection e2 with e2
        injection e2 with e2
        subst e2
        rw [Addr.add_mid, hb.cell hlt]
        exact hc
      obtain ⟨w5, hw5⟩ : ∃ w5, w5 = wq.alloc (.cells (kcs x).toArray 32) := ⟨_, rfl⟩
      obtain ⟨g5, hg5⟩ : ∃ g, g = wq.heap.size := ⟨_, rfl⟩
      have b5 : Below wq.heap.size wq w5 := by rw [hw5]; exact (Below.refl _ _).alloc (Nat.le_refl _) _
      have n5 : w5.heap[g5]? = some (.cells (kcs x).toArray 32 (0, 0)) := by rw [hw5, hg5]; exact heap_alloc_new _ _
      have KT := box_at n5
      have kk : w5.cell? ⟨g5, 1, none⟩ = some (.int .i64 x.2.1) := by rw [cell_of_row w5 g5 1 _ _ _ n5]; rfl
      have OW := Lib.hid (kcs_one x)
      have SX := Lib.hid (SZ.out x)
      have b35 := hb.trans (b5.mono hb.size)
      have HB5 := Lib.hid (HB1.out.trans (b35.mono HB1.out.size))
      have HB35 := Lib.hid b35
      have N5 := Lib.hid ((b35.block g (lt_of_rowW N3.out)).trans N3.out)
      have NX5 := Lib.hid n5
      rw [dropK hx, fiK] at hfd
      have HFD := Lib.hid hfd
      have HW5 := Lib.hid hw5
      have HG5 := Lib.hid hg5
      have GN := Lib.hid (show g5 ≠ g from fun e => by have h1 := lt_of_rowW N3.out; have h2 := hb.size; omega)
      have GL := Lib.hid (show w.heap.size ≤ g from Nat.le_of_eq HG.out.symm)
      have hin2 : (i : Int) < (n : Int) := by omega
      have h0 : (0 : Int) ≤ (i : Int) := by omega
      clear hb hx hfd hw5 hg5 b5 n5 b35 hglt
      go_upto_region 4 with (first
        | (with_reducible show wpList _ _ _ _ _ _; refine wpList_load_allW rfl 32 (.tmp 19) rfl ⟨gp, i * 3, none⟩ rfl (kcs x) _ KX Try.underlying32 rfl (tkSize _) ?_)
        | (with_reducible show wpList _ _ _ _ _ _; refine wpList_store_newW rfl 32 (.tmp 9) (.tmp 20) rfl 32 _ (kcs x).toArray (by with_unfolding_all rfl) (by with_unfolding_all rfl) SX.out rfl OW.out ?_))
      rw [← HW5.out, ← HG5.out]
      simp only [Act.put, List.setIfInBounds_toArray, List.set_cons_zero, List.set_cons_succ, List.getElem_toArray, List.getElem_cons_zero, List.getElem_cons_succ]
      by_cases hq : x.2.1 = kind
      · have FE := Lib.hid (show (x, true) = F from by
          have h1 := HFD.out
          rw [if_pos hq] at h1
          rw [HF.out, h1])
        go_wp2_with (first
          | (with_reducible show wpList _ _ _ _ _ _; refine wpList_load_allW rfl 32 (.tmp 9) rfl ⟨g5, 0, none⟩ rfl (kcs x) _ KT Try.underlying32 rfl (tkSize _) ?_)
          | (with_reducible show wpList _ _ _ _ _ _; refine wpList_store_whole rfl 32 (.tmp 6) (.tmp 25) rfl g 32 (kcs k0).toArray (kcs x).toArray (by with_unfolding_all rfl) (by with_unfolding_all rfl) N5.out SX.out rfl OW.out ?_))
        have N6 := Lib.hid (show (w5.setRow g (kcs x).toArray).heap[g]? = some (.cells (kcs x).toArray 32 (0, 0)) from setRow_heap _ g _ _ _ _ N5.out)
        refine bodyPost_ret (results_row_tmp rfl _ _ g 32 (kcs x) (0, 0) _ _ rfl rfl N6.out Try.underlying32 rfl SX.out) rfl ?_
        rw [← FE.out]
        exact ⟨rfl, below_setRowK HB5.out GL.out _⟩
      · have FE := Lib.hid (show fiK kind (L.drop (i + 1)) = fiK kind L from by
          have h1 := HFD.out
          rwa [if_neg hq] at h1)
        go_wp2_with fail
        exact ⟨⟨i + 1, by rw [← HN.out]; omega, rfl, FE.out, HB35.out⟩, by simp [intOf]; omega⟩
    · have hin2 : ¬ (i : Int) < (n : Int) := by omega
      have hie : i = L.length := by have := HN.out; omega
      have FE := Lib.hid (show (k0, false) = F from by
        rw [hie, List.drop_length] at hfd
        rw [HF.out, ← hfd]
        rfl)
      have N5 := Lib.hid ((hb.block g (lt_of_rowW N3.out)).trans N3.out)
      have HB5 := Lib.hid (HB1.out.trans (hb.mono HB1.out.size))
      have GL := Lib.hid (show w.heap.size ≤ g from Nat.le_of_eq HG.out.symm)
      have OW := Lib.hid (kcs_one k0)
      have SX := Lib.hid (SZ.out k0)
      clear hfd hie hb
      go_wp2_with (first
        | (with_reducible show wpList _ _ _ _ _ _; refine wpList_store_whole rfl 32 (.tmp 6) (.tmp 27) rfl g 32 (kcs k0).toArray (kcs k0).toArray (by with_unfolding_all rfl) (by with_unfolding_all rfl) N5.out SX.out rfl OW.out ?_))
      have N6 := Lib.hid (show (wq.setRow g (kcs k0).toArray).heap[g]? = some (.cells (kcs k0).toArray 32 (0, 0)) from setRow_heap _ g _ _ _ _ N5.out)
      refine bodyPost_ret (results_row_tmp rfl _ _ g 32 (kcs k0) (0, 0) _ _ rfl rfl N6.out Try.underlying32 rfl SX.out) rfl ?_
      rw [← FE.out]
      exact ⟨rfl, below_setRowK HB5.out GL.out _⟩
end Go.Proofs.Ytkmhbbcppjckiaa.Ma
/- The first task of a kind that waits for a worker waits no more. -/
namespace Go.Proofs.Ytkmhbbcppjckiaa.Ma
open Go Go.RowKit Go.Proofs.Ytkmhbbcppjckiaa
open Go.Proofs.Ytkmhbbcppjckiaa.Hp (i64wf K3 wf3)
open Go.Proofs.Ytkmhbbcppjckiaa.Qu
open Go.Proofs.Ytkmhbbcppjckiaa.Dk (Frm below_drewN)
set_option linter.unusedVariables false
set_option linter.unusedSimpArgs false
set_option maxRecDepth 100000
variable {w w' wx : World} {T : Nat → Prop} {b o : Nat} {R0 : Array Value} {ty : TypeId} {M M' : MM}
/-- How a call leaves a Match that has nothing of X. -/
def MPostX (w : World) (T : Nat → Prop) (b o : Nat) (R0 : Array Value) (ty : TypeId) (M : MM) (X : Nat → Prop) (w' : World) : Prop := Frm T w w' ∧ ∃ T', MT w' T' b o R0 ty M ∧ ∀ q, T' q → (T q ∨ w.heap.size ≤ q) ∧ q < w'.heap.size ∧ ¬ X q
theorem MPostX.of {X : Nat → Prop} {wc : World} (hb : Below w.heap.size w wc) (h : MPost wc T b o R0 ty M w') (hX : ∀ q, X q → q < wc.heap.size ∧ ¬ T q) : MPostX w T b o R0 ty M X w' := by
  obtain ⟨hF, T', hM, hT⟩ := h
  refine ⟨(Frm.of_below hb (Nat.le_refl _)).trans hF, T', hM, fun q hq => ⟨?_, (hT q hq).2, fun hx => ?_⟩⟩
  · rcases (hT q hq).1 with h | h
    · exact .inl h
    · exact .inr (Nat.le_trans hb.size h)
  · rcases (hT q hq).1 with h | h
    · exact (hX q hx).2 h
    · have := (hX q hx).1; omega
theorem MPostX.setRow {X : Nat → Prop} {g : Nat} (h : MPostX w T b o R0 ty M X wx) (hg : X g) (hw : w.heap.size ≤ g) (cs : Array Value) : MPostX w T b o R0 ty M X (wx.setRow g cs) := by
  obtain ⟨hF, T', hM, hT⟩ := h
  refine ⟨hF.setRow (.inr hw) cs, T', hM.keep fun q hq _ => setRow_other _ _ _ _ (fun e => (hT q hq).2.2 (e ▸ hg)), fun q hq => ⟨(hT q hq).1, ?_, (hT q hq).2.2⟩⟩
  exact ((hM.keep (w' := wx.setRow g cs) fun q hq _ => setRow_other _ _ _ _ (fun e => (hT q hq).2.2 (e ▸ hg))).lt |> fun _ => by
    have := (hT q hq).2.1
    exact Nat.lt_of_lt_of_le this ((Frm.refl (fun _ => True) wx).setRow (.inl trivial) cs).size)
theorem MPostX.below {X : Nat → Prop} (h : MPostX w T b o R0 ty M X wx) (hb : Below wx.heap.size wx w') : MPostX w T b o R0 ty M X w' := by
  obtain ⟨hF, T', hM, hT⟩ := h
  exact ⟨hF.thenBelow hb (Nat.le_refl _), T', hM.below hb, fun q hq => ⟨(hT q hq).1, Nat.lt_of_lt_of_le (hT q hq).2.1 hb.size, (hT q hq).2.2⟩⟩
theorem MPostX.post {X : Nat → Prop} (h : MPostX w T b o R0 ty M X wx) : MPost w T b o R0 ty M wx := by
  obtain ⟨hF, T', hM, hT⟩ := h
  exact ⟨hF, T', hM, fun q hq => ⟨(hT q hq).1, (hT q hq).2.1⟩⟩
theorem MPost.mono {T1 : Nat → Prop} (h : MPost w T1 b o R0 ty M wx) (hT : ∀ q, T1 q → T q) : MPost w T b o R0 ty M wx := by
  obtain ⟨hF, T', hM, h2⟩ := h
  exact ⟨hF.mono fun q _ hq => hT q hq, T', hM, fun q hq => ⟨(h2 q hq).1.imp (hT q) id, (h2 q hq).2⟩⟩
/-- What stands while the last region is under way. -/
structure TakeM (w : World) (T : Nat → Prop) (b o : Nat) (R0 : Array Value) (ty : TypeId) (M : MM) (k : K3) (g g4 : Nat) (s9 s11 : Bool) (wx : World) : Prop where
  box : wx.heap[g4]? = some (.cells (kcs k).toArray 32 (0, 0))
  res : wx.heap[g]? = some (.cells (kcs (if s11 = true then k else k0)).toArray 32 (0, 0))
  one : s9 = false → Below w.heap.size w wx
  two : s9 = true → MPostX w T b o R0 ty M (fun q => q = g) wx
section
variable {k : K3} {g g4 : Nat}
theorem TakeM.call (h : TakeM w T b o R0 ty M k g g4 false false wx) (hP : MPost wx T b o R0 ty M w') (hT : ∀ q, T q → q < w.heap.size) (hg : w.heap.size ≤ g) (hg4 : w.heap.size ≤ g4) : TakeM w T b o R0 ty M k g g4 true false w' :=
  ⟨(hP.1.block g4 (lt_of_rowW h.box) (fun e => by have := hT _ e; omega)).trans h.box, (hP.1.block g (lt_of_rowW h.res) (fun e => by have := hT _ e; omega)).trans h.res, (fun e => by cases e), fun _ => .of (h.one rfl) hP fun q hq => by
    subst hq
    exact ⟨lt_of_rowW h.res, fun e => by have := hT _ e; omega⟩⟩
theorem TakeM.store {s9 : Bool} (h : TakeM w T b o R0 ty M k g g4 s9 false wx) (hg : w.heap.size ≤ g) (hn : g4 ≠ g) : TakeM w T b o R0 ty M k g g4 s9 true (wx.setRow g (kcs k).toArray) :=
  ⟨(setRow_other _ _ _ _ hn).trans h.box, setRow_heap _ g _ _ _ _ h.res, fun e => below_setRowK (h.one e) hg _, fun e => (h.two e).setRow rfl hg _⟩
end
/-- What a Match holds behind a take. -/
def MM.tk (M : MM) (jw : Nat) (kind : Int) : MM := match fiK kind (keysT (M.W jw)) with
  | (k, true) => M.q jw (remW (M.W jw) k)
  | (_, false) => M
set_option maxHeartbeats 1000000 in
theorem mt_take (h : MT w T b o R0 ty M) {jw : Nat} (hj : jw < 65) (kind : Int) : Calls Try.prog 52 #[.pointer (some ⟨b, o, none⟩), .int .i64 (jw : Int), .int .i64 kind] w fun e w' => e = .returned (.tuple #[.agg (kcs (fiK kind (keysT (M.W jw))).1).toArray, .bool (fiK kind (keysT (M.W jw))).2]) ∧ MPost w T b o R0 ty (M.tk jw kind) w' := by
  obtain ⟨T1, hT1⟩ : ∃ T1 : Nat → Prop, T1 = fun q => T q ∧ q < w.heap.size := ⟨_, rfl⟩
  have h1 : MT w T1 b o R0 ty M := by rw [hT1]; exact h.lts
  suffices hs : Calls Try.prog 52 #[.pointer (some ⟨b, o, none⟩), .int .i64 (jw : Int), .int .i64 kind] w fun e w' => e = .returned (.tuple #[.agg (kcs (fiK kind (keysT (M.W jw))).1).toArray, .bool (fiK kind (keysT (M.W jw))).2]) ∧ MPost w T1 b o R0 ty (M.tk jw kind) w' from
    hs.mono fun e w' hh => ⟨hh.1, hh.2.mono fun q hq => by rw [hT1] at hq; exact hq.1⟩
  have hTlt : ∀ q, T1 q → q < w.heap.size := fun q hq => by rw [hT1] at hq; exact hq.2
  clear h hT1
  obtain ⟨w2, hw2⟩ : ∃ w2, w2 = w.alloc (.cells (kcs k0).toArray 32) := ⟨_, rfl⟩
  obtain ⟨g, hg⟩ : ∃ g, g = w.heap.size := ⟨_, rfl⟩
  have b2 : Below w.heap.size w w2 := by rw [hw2]; exact (Below.refl _ _).alloc (Nat.le_refl _) _
  have n2 : w2.heap[g]? = some (.cells (kcs k0).toArray 32 (0, 0)) := by rw [hw2, hg]; exact heap_alloc_new _ _
  have FI := mt_first (h1.below b2) hj kind
  obtain ⟨k, ok, hk⟩ : ∃ k ok, fiK kind (keysT (M.W jw)) = (k, ok) := ⟨_, _, rfl⟩
  rw [hk] at FI ⊢
  have hM : M.tk jw kind = if ok = true then M.q jw (remW (M.W jw) k) else M := by
    unfold MM.tk
    rw [hk]
    cases ok <;> rfl
  obtain ⟨M', hM'⟩ : ∃ M', M' = M.tk jw kind := ⟨_, rfl⟩
  rw [← hM'] at hM ⊢
  have HR := Lib.hid (show ok = true → ∀ w', Below w.heap.size w w' → Calls Try.prog 17 #[.pointer (some ⟨b, o + 1 + jw * 3, none⟩), .agg (kcs k).toArray] w' fun e w'' => e = .returned (.bool true) ∧ MPost w' T1 b o R0 ty M' w'' from fun e w' hb' => by
    have hm := fiK_mem (e ▸ hk)
    have e1 : (keysT (M.W jw)).contains k = true := by simpa using hm.1
    have hwf : wf3 k := by
      obtain ⟨x, hx, rfl⟩ := List.mem_map.1 hm.1
      exact (h1.wf hj x hx).1
    have hr := mq_remove (h1.below hb') hj k hwf
    have e2 : o + 1 + jw * 3 = qo o jw := by unfold qo; omega
    rw [e2, hM, if_pos e, ← e1]
    exact hr)
  have HN := Lib.hid (show ok = false → M' = M from fun e => by rw [hM, e]; rfl)
  have SZ := Lib.hid (show (Try.prog.info? 32).map (·.size) = some (kcs k).toArray.size by kernel_rfl)
  have OK := Lib.hid (kcs_one k)
  have FI := Lib.hid FI
  have B2 := Lib.hid b2
  have N2 := Lib.hid n2
  have H := Lib.hid h1
  have HW2 := Lib.hid hw2
  have HG := Lib.hid hg
  have HT2 := Lib.hid hTlt
  have hj0 : (0 : Int) ≤ (jw : Int) := by omega
  have hj2 : (jw : Int) < 65 := by omega
  clear h1 b2 n2 hw2 hg hk hM hM' hTlt
  go_enter Try.func52, Try.ntmps52
  go_upto_region 1 with fail
  rw [show (#[.int .i64 0, .int .i64 0, .int .i64 0] : Array Value) = (kcs k0).toArray from rfl, ← HW2.out, ← HG.out]
  go_upto_region 2 with (first
    | (with_reducible refine FI.out.mono ?_; rintro e w3 ⟨rfl, hb3⟩; have B3 := Lib.hid (B2.out.trans (hb3.mono B2.out.size)); have N3 := Lib.hid ((hb3.block g (lt_of_rowW N2.out)).trans N2.out); clear hb3)
    | (with_reducible show wpList _ _ _ _ _ _; refine wpList_store_newW rfl 32 (.tmp 8) (.tmp 15) rfl 32 _ (kcs k).toArray (by with_unfolding_all rfl) (by with_unfolding_all rfl) SZ.out rfl OK.out ?_))
  obtain ⟨w4, hw4⟩ : ∃ w4, w4 = w3.alloc (.cells (kcs k).toArray 32) := ⟨_, rfl⟩
  obtain ⟨g4, hg4⟩ : ∃ g, g = w3.heap.size := ⟨_, rfl⟩
  have b4 : Below w3.heap.size w3 w4 := by rw [hw4]; exact (Below.refl _ _).alloc (Nat.le_refl _) _
  have n4 : w4.heap[g4]? = some (.cells (kcs k).toArray 32 (0, 0)) := by rw [hw4, hg4]; exact heap_alloc_new _ _
  have r4 : w4.heap[g]? = some (.cells (kcs k0).toArray 32 (0, 0)) := (b4.block g (lt_of_rowW N3.out)).trans N3.out
  rw [← hw4, ← hg4]
  have I0 := Lib.hid (show TakeM w T1 b o R0 ty M' k g g4 false false w4.drew from ⟨n4, r4, fun _ => below_drewN (B3.out.trans (b4.mono B3.out.size)) 1, (fun e => by cases e)⟩)
  have GL := Lib.hid (show w.heap.size ≤ g from Nat.le_of_eq HG.out.symm)
  have G4L := Lib.hid (show w.heap.size ≤ g4 from by rw [hg4]; exact B3.out.size)
  have G4N := Lib.hid (show g4 ≠ g from fun e => by have := lt_of_rowW N3.out; omega)
  clear hw4 hg4 b4 n4 r4
  cases ok with
  | true =>
    refine wp_region_parG (α := Unit) (by kernel_rfl) (by kernel_rfl) (fun y => ⟨#[.pointer (some ⟨b, o, none⟩), .int .i64 (jw : Int), .int .i64 kind, undef, undef, undef, .pointer (some ⟨g, 0, none⟩), y 12, .pointer (some ⟨g4, 0, none⟩), .bool true, Value.tuple #[.agg (kcs k).toArray, .bool true], .pointer (some ⟨b, o, none⟩), .int .i64 (jw : Int), .int .i64 kind, Value.tuple #[.agg (kcs k).toArray, .bool true], .agg (kcs k).toArray, .bool true, y 0, y 1, y 2, y 3, y 4, y 5, y 6, y 7, y 8, y 9, y 10], []⟩) (fun p j q => match j with | 0 => q = .agg (kcs k).toArray | 1 => q = .bool true | 2 => q = .bool true | 3 => q = .pointer (some ⟨b, o, none⟩) | 4 => q = .int .i64 (jw : Int) | 5 => q = .pointer (some ⟨b, o, none⟩) | 6 => q = .pointer (some ⟨b, o + 1, none⟩) | 7 => q = .pointer (some ⟨b, o + 1 + jw * 3, none⟩) | 8 => q = .agg (kcs k).toArray | 9 => q = .bool true | 10 => q = .bool true | 12 => q = .bool true | _ => True) (fun M p wx => TakeM w T1 b o R0 ty M' k g g4 (M 9) (M 11) wx) (fun i => [9, 11].contains i) (fun i j => (i == 9 && decide (9 < j)) || (i == 11 && j == 12)) (parOk_spec (by kernel_rfl)) ?_ ?_ ?_ (fun k => match k with | 12 => .bool false | _ => undef) () rfl (by exact I0.out)
    · intro i' o hsrc ho M p y wx hd hi' hI
      match i', ho with
      | 0, ho =>
        obtain rfl := Option.some.inj ho
        refine .inl ⟨rfl, ?_⟩
        exact ⟨.agg (kcs k).toArray, run_loadP 32 (.tmp 8) rfl ⟨g4, 0, none⟩ (by rfl) (kcs k) _ (box_at hI.box) Try.underlying32 rfl (tkSize _), rfl, rfl, hI⟩
      | 1, ho =>
        obtain rfl := Option.some.inj ho
        refine .inl ⟨rfl, ?_⟩
        refine ⟨.bool true, ?_, rfl, rfl, hI⟩
        refine runWithP (fun z => match z with  | .tmp 9 => .bool true | .const c => c | _ => undef) (by kernel_rfl) ?_
        go_simp
      | 2, ho =>
        obtain rfl := Option.some.inj ho
        have y0 : y 1 = .bool true := hd ⟨1, .data⟩ (by simp) rfl
        refine .inl ⟨rfl, ?_⟩
        refine ⟨.bool true, ?_, rfl, rfl, hI⟩
        refine runWithP (fun z => match z with | .tmp 18 => y 1 | .const c => c | _ => undef) (by kernel_rfl) ?_
        rw [y0]
        go_simp
      | 3, ho =>
        obtain rfl := Option.some.inj ho
        have yg : y 2 = .bool true := hd ⟨2, .guard⟩ (by simp) rfl
        refine .inl ⟨Eq.trans (b := gdP (y 2) true) (by kernel_rfl) (by rw [yg]; rfl), ?_⟩
        refine ⟨.pointer (some ⟨b, o, none⟩), ?_, rfl, rfl, hI⟩
        refine runWithP (fun z => match z with  | .tmp 0 => .pointer (some ⟨b, o, none⟩) | .const c => c | _ => undef) (by kernel_rfl) ?_
        go_simp
      | 4, ho =>
        obtain rfl := Option.some.inj ho
        have yg : y 2 = .bool true := hd ⟨2, .guard⟩ (by simp) rfl
        refine .inl ⟨Eq.trans (b := gdP (y 2) true) (by kernel_rfl) (by rw [yg]; rfl), ?_⟩
        refine ⟨.int .i64 (jw : Int), ?_, rfl, rfl, hI⟩
        refine runWithP (fun z => match z with  | .tmp 1 => .int .i64 (jw : Int) | .const c => c | _ => undef) (by kernel_rfl) ?_
        go_simp
      | 5, ho =>
        obtain rfl := Option.some.inj ho
        have yg : y 2 = .bool true := hd ⟨2, .guard⟩ (by simp) rfl
        have y0 : y 3 = .pointer (some ⟨b, o, none⟩) := hd ⟨3, .data⟩ (by simp) rfl
        refine .inl ⟨Eq.trans (b := gdP (y 2) true) (by kernel_rfl) (by rw [yg]; rfl), ?_⟩
        refine ⟨.pointer (some ⟨b, o, none⟩), ?_, rfl, rfl, hI⟩
        refine runWithP (fun z => match z with | .tmp 20 => y 3 | .const c => c | _ => undef) (by kernel_rfl) ?_
        rw [y0]
        go_simp
      | 6, ho =>
        obtain rfl := Option.some.inj ho
        have yg : y 2 = .bool true := hd ⟨2, .guard⟩ (by simp) rfl
        have y0 : y 5 = .pointer (some ⟨b, o, none⟩) := hd ⟨5, .data⟩ (by simp) rfl
        refine .inl ⟨Eq.trans (b := gdP (y 2) true) (by kernel_rfl) (by rw [yg]; rfl), ?_⟩
        refine ⟨.pointer (some ⟨b, o + 1, none⟩), ?_, rfl, rfl, hI⟩
        refine runWithP (fun z => match z with | .tmp 22 => y 5 | .const c => c | _ => undef) (by kernel_rfl) ?_
        rw [y0]
        go_simp
      | 7, ho =>
        obtain rfl := Option.some.inj ho
        have yg : y 2 = .bool true := hd ⟨2, .guard⟩ (by simp) rfl
        have y0 : y 6 = .pointer (some ⟨b, o + 1, none⟩) := hd ⟨6, .data⟩ (by simp) rfl
        have y1 : y 4 = .int .i64 (jw : Int) := hd ⟨4, .data⟩ (by simp) rfl
        refine .inl ⟨Eq.trans (b := gdP (y 2) true) (by kernel_rfl) (by rw [yg]; rfl), ?_⟩
        refine ⟨.pointer (some ⟨b, o + 1 + jw * 3, none⟩), ?_, rfl, rfl, hI⟩
        refine runWithP (fun z => match z with | .tmp 23 => y 6 | .tmp 21 => y 4 | .const c => c | _ => undef) (by kernel_rfl) ?_
        rw [y0, y1]
        go_simp
      | 8, ho =>
        obtain rfl := Option.some.inj ho
        have yg : y 2 = .bool true := hd ⟨2, .guard⟩ (by simp) rfl
        refine .inl ⟨Eq.trans (b := gdP (y 2) true) (by kernel_rfl) (by rw [yg]; rfl), ?_⟩
        exact ⟨.agg (kcs k).toArray, run_loadP 32 (.tmp 8) rfl ⟨g4, 0, none⟩ (by rfl) (kcs k) _ (box_at hI.box) Try.underlying32 rfl (tkSize _), rfl, rfl, hI⟩
      | 9, ho =>
        obtain rfl := Option.some.inj ho
        cases hsrc
      | 10, ho =>
        obtain rfl := Option.some.inj ho
        have y0 : y 2 = .bool true := hd ⟨2, .data⟩ (by simp) rfl
        have y1 : y 9 = .bool true := hd ⟨9, .data⟩ (by simp) rfl
        refine .inl ⟨rfl, ?_⟩
        refine ⟨.bool true, ?_, rfl, rfl, hI⟩
        refine runWithP (fun z => match z with | .tmp 19 => y 2 | .tmp 26 => y 9 | .const c => c | _ => undef) (by kernel_rfl) ?_
        rw [y0, y1]
        kernel_rfl
      | 11, ho =>
        obtain rfl := Option.some.inj ho
        cases hsrc
      | 12, ho =>
        obtain rfl := Option.some.inj ho
        have y0 : y 10 = .bool true := hd ⟨10, .data⟩ (by simp) rfl
        refine .inl ⟨rfl, ?_⟩
        refine ⟨.bool true, ?_, rfl, rfl, hI⟩
        refine runWithP (fun z => match z with | .tmp 27 => y 10 | .const c => c | _ => undef) (by kernel_rfl) ?_
        rw [y0]
        go_simp
      | j + 13, ho => cases ho
    · intro i' o hsrc ho M p y wx hd hi' hlat hI
      match i', hsrc, ho with
      | 0, hsrc, ho =>
        cases hsrc
      | 1, hsrc, ho =>
        cases hsrc
      | 2, hsrc, ho =>
        cases hsrc
      | 3, hsrc, ho =>
        cases hsrc
      | 4, hsrc, ho =>
        cases hsrc
      | 5, hsrc, ho =>
        cases hsrc
      | 6, hsrc, ho =>
        cases hsrc
      | 7, hsrc, ho =>
        cases hsrc
      | 8, hsrc, ho =>
        cases hsrc
      | 9, hsrc, ho =>
        obtain rfl := Option.some.inj ho
        have yg : y 2 = .bool true := (hd ⟨2, .guard⟩ (by simp) rfl).2
        refine ⟨Eq.trans (b := gdP (y 2) true) (by kernel_rfl) (by rw [yg]; rfl), ?_⟩
        have h11 : M 11 = false := hlat 11 rfl
        have y7 : y 7 = .pointer (some ⟨b, o + 1 + jw * 3, none⟩) := (hd ⟨7, .data⟩ (by simp) rfl).2
        have y8 : y 8 = .agg (kcs k).toArray := (hd ⟨8, .data⟩ (by simp) rfl).2
        rw [hi', h11] at hI
        refine slot_call #[.pointer (some ⟨b, o + 1 + jw * 3, none⟩), .agg (kcs k).toArray] rfl Try.func17 (by kernel_rfl) (by kernel_rfl) (by simp [Act.eval, y7, y8]) ?_
        refine (HR.out rfl wx (hI.one rfl)).mono ?_
        rintro e w' ⟨rfl, hP⟩
        refine ⟨_, rfl, _, (), rfl, rfl, fun j q _ _ h => h, ?_⟩
        show TakeM w T1 b o R0 ty M' k g g4 true (M 11) w'
        rw [h11]
        exact hI.call hP HT2.out GL.out G4L.out
      | 10, hsrc, ho =>
        cases hsrc
      | 11, hsrc, ho =>
        obtain rfl := Option.some.inj ho
        refine ⟨rfl, ?_⟩
        have y0 : y 0 = .agg (kcs k).toArray := (hd ⟨0, .data⟩ (by simp) rfl).2
        have h9 := (hd ⟨9, .chain⟩ (by simp) rfl).1
        rw [h9, hi'] at hI
        refine slot_storeP 32 (.tmp 6) (.tmp 17) rfl g 32 (kcs k0).toArray (kcs k).toArray rfl y0 hI.res SZ.out rfl OK.out ?_
        refine ⟨undef, (), rfl, trivial, fun j q _ _ h => h, ?_⟩
        show TakeM w T1 b o R0 ty M' k g g4 (M 9) true _
        rw [h9]
        exact hI.store GL.out G4N.out
      | 12, hsrc, ho =>
        cases hsrc
      | j + 13, hsrc, ho => cases ho
    · rintro M p y wx hall hI
      have y12 : y 12 = .bool true := (hall 12 (by decide)).2
      try dsimp only
      rw [y12]
      have h11 := (hall 11 (by decide)).1
      rw [(hall 9 (by decide)).1, h11] at hI
      have N4 := Lib.hid hI.res
      have Q4 := Lib.hid (show MPost w T1 b o R0 ty M' wx from (hI.two rfl).post)
      clear hI hall y12
      go_wp2_with fail
      refine bodyPost_ret (results_row_tmp rfl _ _ g 32 (kcs k) (0, 0) _ _ rfl rfl N4.out Try.underlying32 rfl SZ.out) rfl ?_
      exact ⟨rfl, Q4.out⟩
  | false =>
    obtain rfl := HN.out rfl
    refine wp_region_parG (α := Unit) (by kernel_rfl) (by kernel_rfl) (fun y => ⟨#[.pointer (some ⟨b, o, none⟩), .int .i64 (jw : Int), .int .i64 kind, undef, undef, undef, .pointer (some ⟨g, 0, none⟩), y 12, .pointer (some ⟨g4, 0, none⟩), .bool false, Value.tuple #[.agg (kcs k).toArray, .bool false], .pointer (some ⟨b, o, none⟩), .int .i64 (jw : Int), .int .i64 kind, Value.tuple #[.agg (kcs k).toArray, .bool false], .agg (kcs k).toArray, .bool false, y 0, y 1, y 2, y 3, y 4, y 5, y 6, y 7, y 8, y 9, y 10], []⟩) (fun p j q => match j with | 0 => q = .agg (kcs k).toArray | 1 => q = .bool false | 2 => q = .bool false | 10 => q = .bool false | 12 => q = .bool false | _ => True) (fun M p wx => TakeM w T1 b o R0 ty M' k g g4 (false) (M 11) wx) (fun i => [11].contains i) (fun i j => (i == 9 && decide (9 < j)) || (i == 11 && j == 12)) (parOk_spec (by kernel_rfl)) ?_ ?_ ?_ (fun k => match k with | 12 => .bool false | _ => undef) () rfl (by exact I0.out)
    · intro i' o hsrc ho M p y wx hd hi' hI
      match i', ho with
      | 0, ho =>
        obtain rfl := Option.some.inj ho
        refine .inl ⟨rfl, ?_⟩
        exact ⟨.agg (kcs k).toArray, run_loadP 32 (.tmp 8) rfl ⟨g4, 0, none⟩ (by rfl) (kcs k) _ (box_at hI.box) Try.underlying32 rfl (tkSize _), rfl, rfl, hI⟩
      | 1, ho =>
        obtain rfl := Option.some.inj ho
        refine .inl ⟨rfl, ?_⟩
        refine ⟨.bool false, ?_, rfl, rfl, hI⟩
        refine runWithP (fun z => match z with  | .tmp 9 => .bool false | .const c => c | _ => undef) (by kernel_rfl) ?_
        go_simp
      | 2, ho =>
        obtain rfl := Option.some.inj ho
        have y0 : y 1 = .bool false := hd ⟨1, .data⟩ (by simp) rfl
        refine .inl ⟨rfl, ?_⟩
        refine ⟨.bool false, ?_, rfl, rfl, hI⟩
        refine runWithP (fun z => match z with | .tmp 18 => y 1 | .const c => c | _ => undef) (by kernel_rfl) ?_
        rw [y0]
        go_simp
      | 3, ho =>
        obtain rfl := Option.some.inj ho
        have yg : y 2 = .bool false := hd ⟨2, .guard⟩ (by simp) rfl
        exact .inr ⟨Eq.trans (b := gdP (y 2) true) (by kernel_rfl) (by rw [yg]; rfl), undef, rfl, trivial, hI⟩
      | 4, ho =>
        obtain rfl := Option.some.inj ho
        have yg : y 2 = .bool false := hd ⟨2, .guard⟩ (by simp) rfl
        exact .inr ⟨Eq.trans (b := gdP (y 2) true) (by kernel_rfl) (by rw [yg]; rfl), undef, rfl, trivial, hI⟩
      | 5, ho =>
        obtain rfl := Option.some.inj ho
        have yg : y 2 = .bool false := hd ⟨2, .guard⟩ (by simp) rfl
        exact .inr ⟨Eq.trans (b := gdP (y 2) true) (by kernel_rfl) (by rw [yg]; rfl), undef, rfl, trivial, hI⟩
      | 6, ho =>
        obtain rfl := Option.some.inj ho
        have yg : y 2 = .bool false := hd ⟨2, .guard⟩ (by simp) rfl
        exact .inr ⟨Eq.trans (b := gdP (y 2) true) (by kernel_rfl) (by rw [yg]; rfl), undef, rfl, trivial, hI⟩
      | 7, ho =>
        obtain rfl := Option.some.inj ho
        have yg : y 2 = .bool false := hd ⟨2, .guard⟩ (by simp) rfl
        exact .inr ⟨Eq.trans (b := gdP (y 2) true) (by kernel_rfl) (by rw [yg]; rfl), undef, rfl, trivial, hI⟩
      | 8, ho =>
        obtain rfl := Option.some.inj ho
        have yg : y 2 = .bool false := hd ⟨2, .guard⟩ (by simp) rfl
        exact .inr ⟨Eq.trans (b := gdP (y 2) true) (by kernel_rfl) (by rw [yg]; rfl), undef, rfl, trivial, hI⟩
      | 9, ho =>
        obtain rfl := Option.some.inj ho
        have yg : y 2 = .bool false := hd ⟨2, .guard⟩ (by simp) rfl
        exact .inr ⟨Eq.trans (b := gdP (y 2) true) (by kernel_rfl) (by rw [yg]; rfl), undef, rfl, trivial, hI⟩
      | 10, ho =>
        obtain rfl := Option.some.inj ho
        have y0 : y 2 = .bool false := hd ⟨2, .data⟩ (by simp) rfl
        refine .inl ⟨rfl, ?_⟩
        refine ⟨.bool false, ?_, rfl, rfl, hI⟩
        refine runWithP (fun z => match z with | .tmp 19 => y 2 | .tmp 26 => y 9 | .const c => c | _ => undef) (by kernel_rfl) ?_
        rw [y0]
        kernel_rfl
      | 11, ho =>
        obtain rfl := Option.some.inj ho
        cases hsrc
      | 12, ho =>
        obtain rfl := Option.some.inj ho
        have y0 : y 10 = .bool false := hd ⟨10, .data⟩ (by simp) rfl
        refine .inl ⟨rfl, ?_⟩
        refine ⟨.bool false, ?_, rfl, rfl, hI⟩
        refine runWithP (fun z => match z with | .tmp 27 => y 10 | .const c => c | _ => undef) (by kernel_rfl) ?_
        rw [y0]
        go_simp
      | j + 13, ho => cases ho
    · intro i' o hsrc ho M p y wx hd hi' hlat hI
      obtain rfl : i' = 11 := by simpa using hsrc
      obtain rfl := Option.some.inj ho
      refine ⟨rfl, ?_⟩
      have y0 : y 0 = .agg (kcs k).toArray := (hd ⟨0, .data⟩ (by simp) rfl).2
      rw [ hi'] at hI
      refine slot_storeP 32 (.tmp 6) (.tmp 17) rfl g 32 (kcs k0).toArray (kcs k).toArray rfl y0 hI.res SZ.out rfl OK.out ?_
      refine ⟨undef, (), rfl, trivial, fun j q _ _ h => h, ?_⟩
      show TakeM w T1 b o R0 ty M' k g g4 false true _
      exact hI.store GL.out G4N.out
    · rintro M p y wx hall hI
      have y12 : y 12 = .bool false := (hall 12 (by decide)).2
      try dsimp only
      rw [y12]
      have h11 := (hall 11 (by decide)).1
      rw [ h11] at hI
      have N4 := Lib.hid hI.res
      have Q4 := Lib.hid (show MPost w T1 b o R0 ty M' wx from .same H.out (hI.one rfl))
      clear hI hall y12
      go_wp2_with fail
      refine bodyPost_ret (results_row_tmp rfl _ _ g 32 (kcs k) (0, 0) _ _ rfl rfl N4.out Try.underlying32 rfl SZ.out) rfl ?_
      exact ⟨rfl, Q4.out⟩
end Go.Proofs.Ytkmhbbcppjckiaa.Ma
