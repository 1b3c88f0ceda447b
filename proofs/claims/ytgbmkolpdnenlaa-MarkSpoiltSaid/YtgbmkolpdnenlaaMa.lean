/- Words in a mark's sector: what word and putWord do. -/
import Derived.Test.YtgbmkolpdnenlaaDq
import Derived.Test.YtgbmkolpdnenlaaQt
import Derived.Deep.QuietTactic
import Derived.BigQuiet
import Derived.Deep.RegionWith
namespace Go.Proofs.Ytgbmkolpdnenlaa.Dk
open Go Go.RowKit
set_option linter.unusedVariables false
set_option linter.unusedSimpArgs false

/-- A sector's bytes in a block. -/
def SecAt (w : World) (g : Nat) (l : List UInt8) : Prop := w.heap[g]? = some (.cells (bvs l).toArray 93 (0, 0)) ∧ l.length = 128
/-- The number that some bytes are, the lowest first. -/
def wordN (l : List UInt8) (at_ : Nat) : Nat → Nat
  | 0 => 0
  | i + 1 => wordN l at_ i + (l.getD (at_ + i) 0).toNat * 256 ^ i
theorem wordN_lt (l : List UInt8) (at_ : Nat) : ∀ i, wordN l at_ i < 256 ^ i
  | 0 => by simp [wordN]
  | i + 1 => by
    have ih := wordN_lt l at_ i
    have hb := (l.getD (at_ + i) 0).toNat_lt
    have h1 : (l.getD (at_ + i) 0).toNat * 256 ^ i ≤ 255 * 256 ^ i := Nat.mul_le_mul_right _ (by omega)
    rw [wordN, Nat.pow_succ]
    omega
theorem sec_cell {w : World} {g : Nat} {l : List UInt8} (h : SecAt w g l) {j : Nat} (hj : j < 128) : w.cell? ⟨g, j, none⟩ = some (.int .u8 ((l.getD j 0).toNat : Int)) := by
  rw [cell_of_row w g j _ _ _ h.1]
  have : j < l.length := by rw [h.2]; exact hj
  simp [bvs, bv, List.getD, this]
theorem word_or {l : List UInt8} (hl : l.length = 128) (at_ i : Nat) (hi : i < 8) :
    bits BinOp.or IntKind.u64 ((wordN l at_ i : Nat) : Int) (IntKind.u64.wrap (IntKind.u64.wrap (((l.getD (at_ + i) 0).toNat : Nat) : Int) * 2 ^ (8 * i))) = ((wordN l at_ (i + 1) : Nat) : Int) := by
  have h1 := wordN_lt l at_ i
  have h2 := wordN_lt l at_ (i + 1)
  have hb := (l.getD (at_ + i) 0).toNat_lt
  have e0 : (2 : Nat) ^ (8 * i) = 256 ^ i := by rw [Nat.pow_mul]
  have hp : (256 : Nat) ^ (i + 1) ≤ 256 ^ 8 := Nat.pow_le_pow_right (by decide) (by omega)
  have hp8 : (256 : Nat) ^ 8 = 18446744073709551616 := by decide
  have hm : (l.getD (at_ + i) 0).toNat * 256 ^ i < 18446744073709551616 := by
    rw [wordN] at h2
    omega
  have e1 : IntKind.u64.wrap (((l.getD (at_ + i) 0).toNat : Nat) : Int) = (((l.getD (at_ + i) 0).toNat : Nat) : Int) := by rw [IntKind.wrap_u64]; omega
  have e2 : IntKind.u64.wrap ((((l.getD (at_ + i) 0).toNat : Nat) : Int) * 2 ^ (8 * i)) = (((l.getD (at_ + i) 0).toNat * 256 ^ i : Nat) : Int) := by
    have e3 : (2 : Int) ^ (8 * i) = ((256 ^ i : Nat) : Int) := by rw [← e0]; simp
    rw [e3, ← Int.natCast_mul, IntKind.wrap_u64]
    omega
  rw [e1, e2, u64_or_nat _ _ (by omega) hm, Nat.or_comm, nat_join (8 * i) _ _ (by rw [e0]; exact Nat.mul_mod_left _ _) (by rw [e0]; exact h1), wordN]
  congr 1
  omega
def WoRel (l : List UInt8) (at_ : Nat) (w : World) (u v : Value) (wr : World) : Prop := ∃ i : Nat, u = .int .i64 (i : Int) ∧ v = .int .u64 ((wordN l at_ i : Nat) : Int) ∧ i ≤ 8 ∧ wr = w
set_option maxRecDepth 100000 in
set_option maxHeartbeats 1600000 in
theorem word_any {w : World} {g : Nat} {l : List UInt8} (h : SecAt w g l) (at_ : Nat) (hat : at_ + 8 ≤ 128) :
    Calls Try.prog 62 #[.pointer (some ⟨g, 0, none⟩), .int .i64 (at_ : Int)] w fun e w' => e = .returned (.int .u64 ((wordN l at_ 8 : Nat) : Int)) ∧ w = w' := by
  have H := Lib.hid h
  clear h
  go_enter Try.func62, Try.ntmps62
  go_wp2_with fail
  go_loopw [7, 5] (fun u v wr => WoRel l at_ w u v wr) (fun u _ _ => 8 - (intOf u).toNat)
  case atStart => exact ⟨0, rfl, rfl, Nat.zero_le _, rfl⟩
  case round =>
    obtain ⟨wo, rfl⟩ : ∃ wo : World, wo = wr := ⟨_, rfl⟩
    obtain ⟨i, rfl, rfl, hi, hwr⟩ := hrel
    obtain rfl := hwr.symm
    clear hwr
    by_cases hil : i < 8
    · have hii : (i : Int) < 8 := by omega
      have hc := sec_cell H.out (show at_ + i < 128 by omega)
      have hb1 : (at_ : Int) + (i : Int) < 128 := by omega
      have hatI : (at_ : Int) ≤ 120 := by omega
      have hor := word_or H.out.2 at_ i hil
      have RL := Lib.hid (show WoRel l at_ w (.int .i64 ((i + 1 : Nat) : Int)) (.int .u64 ((wordN l at_ (i + 1) : Nat) : Int)) w from ⟨i + 1, rfl, rfl, by omega, rfl⟩)
      have HOR := Lib.hid hor
      clear hor
      go_wp2_with fail
      rw [show l[at_ + i]?.getD 0 = l.getD (at_ + i) 0 from rfl, HOR.out]
      exact ⟨RL.out, by simp [intOf]; omega⟩
    · obtain rfl : i = 8 := by omega
      rw [show ((8 : Nat) : Int) = 8 from rfl]
      go_wp2_with fail
      go_ret
      exact ⟨rfl, rfl⟩
def leTo (n : Nat) : Nat → List UInt8
  | 0 => []
  | i + 1 => leTo n i ++ [UInt8.ofNat (n / 256 ^ i)]
theorem leTo_length (n : Nat) : ∀ i, (leTo n i).length = i
  | 0 => rfl
  | i + 1 => by rw [leTo, List.length_append, leTo_length n i]; rfl
/-- Bytes laid over others from a place on. -/
def lay8 (l : List UInt8) (at_ : Nat) (b : List UInt8) : List UInt8 := l.take at_ ++ (b ++ l.drop (at_ + b.length))
def PwRel (l : List UInt8) (at_ n g : Nat) (w : World) (u : Value) (wr : World) : Prop := ∃ i : Nat, u = .int .i64 (i : Int) ∧ i ≤ 8 ∧ SecAt wr g (lay8 l at_ (leTo n i)) ∧ Frm (fun k => k = g) w wr
theorem lay8_length {l b : List UInt8} {at_ : Nat} (h : at_ + b.length ≤ l.length) : (lay8 l at_ b).length = l.length := by
  unfold lay8
  rw [List.length_append, List.length_append, List.length_take, List.length_drop]
  omega
theorem lay8_snoc {l b : List UInt8} {at_ : Nat} {x : UInt8} (h : at_ + b.length < l.length) : (lay8 l at_ b).set (at_ + b.length) x = lay8 l at_ (b ++ [x]) := by
  unfold lay8
  have h1 : (l.take at_).length = at_ := by rw [List.length_take]; omega
  rw [List.set_append, if_neg (by rw [h1]; omega), h1, List.set_append, if_neg (by omega)]
  rw [show at_ + b.length - at_ - b.length = 0 by omega]
  have h2 : l.drop (at_ + b.length) = l[at_ + b.length] :: l.drop (at_ + b.length + 1) := List.drop_eq_getElem_cons h
  rw [h2, List.set_cons_zero, List.length_append]
  simp [List.append_assoc]
  rfl
set_option maxRecDepth 100000 in
set_option maxHeartbeats 1600000 in
theorem putWord_any {w : World} {g : Nat} {l : List UInt8} (h : SecAt w g l) (at_ n : Nat) (hat : at_ + 8 ≤ 128) (hn : n < 18446744073709551616) :
    Calls Try.prog 75 #[.pointer (some ⟨g, 0, none⟩), .int .i64 (at_ : Int), .int .u64 (n : Int)] w fun e w' => e = .returned (.tuple #[]) ∧ SecAt w' g (lay8 l at_ (leTo n 8)) ∧ Frm (fun k => k = g) w w' := by
  have H := Lib.hid h
  have HN := Lib.hid hn
  clear h hn
  have P0 := Lib.hid (show PwRel l at_ n g w (.int .i64 0) w from ⟨0, rfl, Nat.zero_le _, by simpa [lay8, leTo] using H.out, Frm.refl _ _⟩)
  go_enter Try.func75, Try.ntmps75
  go_wp2_with fail
  go_loopw [7] (fun u wr => PwRel l at_ n g w u wr) (fun u _ => 8 - (intOf u).toNat)
  case atStart => exact P0.out
  case round =>
    obtain ⟨wo, rfl⟩ : ∃ wo : World, wo = wr := ⟨_, rfl⟩
    obtain ⟨i, rfl, hi, hS, hF⟩ := hrel
    by_cases hil : i < 8
    · have hii : (i : Int) < 8 := by omega
      have hll := leTo_length n i
      have hl8 : (lay8 l at_ (leTo n i)).length = 128 := hS.2
      have e2 : (2 : Int) ^ (8 * i) = ((256 ^ i : Nat) : Int) := by
        have e1 : (2 : Nat) ^ (8 * i) = 256 ^ i := by rw [Nat.pow_mul]
        rw [← e1]; simp
      have hx : (n : Int) / 2 ^ (8 * i) % 256 = (((UInt8.ofNat (n / 256 ^ i)).toNat : Nat) : Int) := by
        rw [UInt8.toNat_ofNat', e2, ← Int.natCast_ediv]; omega
      have hc := sec_cell hS (show at_ + i < 128 by omega)
      have hf := frozen_of_row wo g (at_ + i) _ _ hS.1
      have hst := Go.Joins.block_setCell (i := at_ + i) hS.1 (.int .u8 (((UInt8.ofNat (n / 256 ^ i)).toNat : Nat) : Int))
      have hset : (bvs (lay8 l at_ (leTo n i))).toArray.setIfInBounds (at_ + i) (.int .u8 (((UInt8.ofNat (n / 256 ^ i)).toNat : Nat) : Int)) = (bvs (lay8 l at_ (leTo n (i + 1)))).toArray := by
        have h1 := bvs_set (lay8 l at_ (leTo n i)) (at_ + i) (UInt8.ofNat (n / 256 ^ i))
        have h2 := lay8_snoc (l := l) (b := leTo n i) (at_ := at_) (x := UInt8.ofNat (n / 256 ^ i)) (by rw [hll, H.out.2]; omega)
        rw [hll] at h2
        rw [h2] at h1
        exact h1
      rw [hset] at hst
      have RL := Lib.hid (fun q => show PwRel l at_ n g w (.int .i64 ((i + 1 : Nat) : Int)) ((wo.drewN q).setCell ⟨g, at_ + i, none⟩ (.int .u8 (((UInt8.ofNat (n / 256 ^ i)).toNat : Nat) : Int))) from
        ⟨i + 1, rfl, by omega, ⟨hst, by rw [lay8_length (by rw [leTo_length, H.out.2]; omega)]; exact H.out.2⟩, (hF.drewN q).setCell (p := ⟨g, at_ + i, none⟩) (.inl rfl) _⟩)
      have hb1 : (at_ : Int) + (i : Int) < 128 := by omega
      have hatI : (at_ : Int) ≤ 120 := by omega
      have HX := Lib.hid hx
      clear hst hset e2 hll hl8 hS hF P0 hx
      go_wp2_with fail
      (refine wp_region_quiet_tail 11 (by kernel_rfl) (by kernel_rfl) ?_; simp only [List.take_succ_cons, List.take_zero, List.drop_succ_cons, List.drop_zero]; (repeat (go_big_quiet_step (fail))); refine wpQuiet_nil ?_; intro _ hw'; obtain ⟨nq, hw''⟩ := hw'; subst hw'')
      go_wp2_with fail
      rw [HX.out]
      exact ⟨RL.out _, by simp [intOf]; omega⟩
    · obtain rfl : i = 8 := by omega
      rw [show ((8 : Nat) : Int) = 8 from rfl]
      have HS := Lib.hid hS
      have HF := Lib.hid hF
      clear hS hF P0
      go_wp2_with fail
      go_end0
      exact ⟨rfl, HS.out, HF.out⟩
end Go.Proofs.Ytgbmkolpdnenlaa.Dk
