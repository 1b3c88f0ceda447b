/- The law SumGoes: its walk. -/
import Derived.Test.YtejbookaflnpeabDoorDa
namespace Go.Proofs.YtejbookaflnpeabDoor
open Go Go.RowKit
set_option linter.unusedVariables false

theorem add_at {w : World} {b : Nat} {h0 : HS} (h : HashAt w b h0.G h0.B h0.n) {S K : List Nat} (ht : Tables w S K) (hbs : b ≠ 1) (hbk : b ≠ 3) {v : Value} {L : List (Value × List UInt8)} (hv : Parts w b v L) (hn : h0.n + (bytesOf L).length < 9223372036854775808) (hL : L.length < 9223372036854775808) :
    Calls Tryd.prog 16 #[.pointer (some ⟨b, 0, none⟩), v] w fun e w' => e = .returned (.tuple #[]) ∧ HashAt w' b (feed S K h0 (bytesOf L)).G (feed S K h0 (bytesOf L)).B (feed S K h0 (bytesOf L)).n ∧ Hs w w' b := add_any h ht hbs hbk hv hn hL
theorem Src.ofOwn {w : World} {base : Nat} {v : Value} {xs : List UInt8} {b : Nat} (h : w.ownsRow base 5 1 v xs.length (bvs xs)) (hb : b < base) : Src w b v xs := by
  have hl := h.lt
  obtain ⟨ao, c, hv, hc, hno, hs⟩ := Bs.ofOwn h
  refine ⟨ao, c, hv, hc, hno, fun a ha hp => ?_⟩
  have := hl a.block (by rw [hv, ha]; rfl)
  exact ⟨by omega, this.2, hs a ha⟩
theorem Parts.one {w : World} {b g t : Nat} {v1 : Value} {x1 : List UInt8} (hg : w.heap[g]? = some (.cells #[v1] t (0, 0))) (hne : g ≠ b) (h1 : Src w b v1 x1) : Parts w b (.slice (some ⟨g, 0, none⟩) 1 1) [(v1, x1)] := by
  refine ⟨some ⟨g, 0, none⟩, 1, rfl, (by intro e; cases e), fun a ha _ => ?_⟩
  cases ha
  refine ⟨hne, (Array.getElem?_eq_some_iff.1 hg).1, fun j p hj => ?_⟩
  match j, hj with
  | 0, hj =>
    obtain rfl : (v1, x1) = p := by simpa using hj
    refine ⟨?_, h1⟩
    rw [Addr.add_mid, Nat.zero_add, cell_of_row w g 0 _ _ _ hg]; rfl
  | j + 1, hj => simp at hj
theorem own_rebase {w : World} {base base' : Nat} {e : TypeId} {size : Nat} {v : Value} {n : Nat} {xs : List Value} (h : w.ownsRow base e size v n xs) (hb : ∀ g, v.ownBlock = some g → base' ≤ g) : w.ownsRow base' e size v n xs := by
  refine ⟨h.1, ?_⟩
  rcases h.2 with h2 | ⟨g, cap, cur, e, h1, rest⟩
  · exact Or.inl h2
  · exact Or.inr ⟨g, cap, cur, e, hb g (by rw [e]; rfl), rest⟩
theorem GiRel.start {w : World} {base gm : Nat} {v : Value} {xs : List UInt8} (h : w.ownsRow base 5 1 v xs.length (bvs xs)) (hg : v.ownBlock = some gm) : w.ownsRow gm 5 1 v xs.length ((xs.map fun x => (x.toNat : Int)).map (Value.int .u8)) := by
  have e : (xs.map fun x => (x.toNat : Int)).map (Value.int .u8) = bvs xs := by simp [bvs, bv, Function.comp_def]
  rw [e]
  exact own_rebase h (fun g hg' => by rw [hg] at hg'; cases hg'; exact Nat.le_refl _)
theorem gi_at {wr : World} {ao : Option Addr} {base gm n c k : Nat} {zs : List Int} (h : wr.ownsRow base 5 1 (.slice ao n c) n (zs.map (Value.int .u8))) (hg : (Value.slice ao n c).ownBlock = some gm) (hz : zs.length = n) (hk : k < n) :
    ao = some ⟨gm, 0, none⟩ ∧ wr.cell? ⟨gm, k, none⟩ = some (.int .u8 (zs.getD k 0)) ∧ wr.frozen? ⟨gm, k, none⟩ = false := by
  rcases h.2 with ⟨e, e0⟩ | ⟨g, cap, cur, e, _⟩
  · omega
  · injection e with e1 e2 e3
    subst e1 e3
    obtain rfl : g = gm := by simpa [Value.ownBlock] using hg
    refine ⟨rfl, ?_, h.frozenAt k⟩
    rw [h.cellAt k (by omega)]
    have : k < zs.length := by omega
    simp [List.getD, this]
/-- Where the loop over the pieces stands. -/
def GoRel (w : World) (b : Nat) (L : List (Value × List UInt8)) (va u : Value) (wr : World) : Prop :=
  ∃ k : Nat, u = .int .i64 (k : Int) ∧ k ≤ L.length ∧ HashAt wr b (feed S0 K0 H0 (bytesOf (L.take k))).G (feed S0 K0 H0 (bytesOf (L.take k))).B (feed S0 K0 H0 (bytesOf (L.take k))).n ∧
    wr.ownsRow (b + 1) 5 1 va (bytesOf (L.take k)).length (bvs (bytesOf (L.take k))) ∧ (bytesOf (L.take k)).length ≤ 300 * k ∧ Below w.heap.size w wr
/-- Where the loop over a piece stands, which turns its bytes. -/
def GiRel (w1 : World) (gm n : Nat) (v : Value) (u : Value) (wr : World) : Prop :=
  ∃ (k : Nat) (zs : List Int), u = .int .i64 (k : Int) ∧ k ≤ n ∧ zs.length = n ∧ wr.ownsRow gm 5 1 v n (zs.map (Value.int .u8)) ∧ Hs w1 wr gm
end Go.Proofs.YtejbookaflnpeabDoor
