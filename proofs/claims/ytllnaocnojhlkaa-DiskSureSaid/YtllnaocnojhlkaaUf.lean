/- What a ring's call Append leaves. -/
import Derived.Test.YtllnaocnojhlkaaUc
import Derived.Test.YtllnaocnojhlkaaUe
namespace Go.Proofs.Ytllnaocnojhlkaa.Dk
open Go Go.RowKit
set_option linter.unusedVariables false
set_option linter.unusedSimpArgs false

/-- Where the loop of Append stands. -/
def ApRel (w w1 : World) (k q : Nat) (S : List UInt8) (L : List (List UInt8)) (u vb : Value) (wr : World) : Prop :=
  ∃ j : Nat, u = .int .i64 (j : Int) ∧ j ≤ L.length ∧ Below w.heap.size w wr ∧
    ((sumLen (L.take j) = 0 ∧ vb = .slice (some ⟨k, 0, none⟩) q q) ∨ (0 < sumLen (L.take j) ∧ wr.ownsRow w.heap.size 5 1 vb (q + sumLen (L.take j)) (bvs (S.take q ++ (L.take j).flatten))))
theorem own_range {w : World} {base n : Nat} {v : Value} {l : List UInt8} (h : w.ownsRow base 5 1 v n (bvs l)) (hn : 0 < n) : ∃ kb c, v = .slice (some ⟨kb, 0, none⟩) n c ∧ base ≤ kb ∧ n ≤ c ∧ w.rangeAt kb 0 (bvs l) := by
  rcases h.2 with ⟨_, e⟩ | ⟨g, cap, cur, e, hb, hh, h1, h2, h3, h4⟩
  · omega
  · refine ⟨g, cap, e, hb, h1, fun j v hv => ?_⟩
    rw [cell_of_row w g (0 + j) _ _ _ hh, Nat.zero_add, ← Array.getElem?_toList]
    rw [← h4] at hv
    rw [List.getElem?_take] at hv
    split at hv
    · exact hv
    · cases hv
set_option maxRecDepth 100000 in
set_option maxHeartbeats 4000000 in
theorem append_any {w : World} {r d k first count tail : Nat} {S : List UInt8} {t : TypeId} (h : RingAt w r d k first count tail S t) (ht : tail ≤ 4611686018427387904)
    {g m n : Nat} {x : DS} (hD : DiskAt Try.prog w d g m n x) (hr : ¬ own3 d g m r) (hk : ¬ own3 d g m k) (hnn : n ≤ 1000000000)
    (head : Nat) (hh : head < 18446744073709551616) (ao : Option Addr) (c : Nat) (L : List (List UInt8)) (hP : Parts w (.slice ao L.length c) L) (hl : L.length ≤ 1000000) (hsum : sumLen L ≤ 900000) :
    Calls Try.prog 19 #[.pointer (some ⟨r, 0, none⟩), .int .u64 (head : Int), .slice ao L.length c] w fun e w' =>
      (leftN head tail count < sumLen L ∧ e = .returned (.int .i64 3) ∧ ∃ q, w' = w.drewN q) ∨ (sumLen L = 0 ∧ e = .returned (.int .i64 0) ∧ ∃ q, w' = w.drewN q) ∨
      (0 < sumLen L ∧ sumLen L ≤ leftN head tail count ∧ ∃ X, X = lays first count (S.take (tail % 128) ++ L.flatten).length x (tail - tail % 128) (S.take (tail % 128) ++ L.flatten) ∧ e = .returned (.int .i64 X.2) ∧
        DiskAt Try.prog w' d g m (n + (S.take (tail % 128) ++ L.flatten).length) X.1 ∧ Frm (fun i => i = r ∨ own3 d g m i) w w' ∧
        (X.2 = 0 → ∃ ks, w.heap.size ≤ ks ∧ RingAt w' r d ks first count (tail + sumLen L) (pad ((S.take (tail % 128) ++ L.flatten).drop (((S.take (tail % 128) ++ L.flatten).length - 1) / 128 * 128))) 5) ∧
        (X.2 ≠ 0 → RingAt w' r d k first count tail S t)) := by
  obtain ⟨i0, hi, hz0, hz1, hz2⟩ := info_parts Try.infoU8
  have q4 := h.q4
  have H := Lib.hid h
  have HD := Lib.hid hD
  have HP := Lib.hid hP
  have LF := Lib.hid (left_any h ht head hh)
  have hm := Nat.mod_lt tail (show 0 < 128 by decide)
  have hlb : leftN head tail count ≤ 1000000 := by have := h.few; unfold leftN; omega
  generalize hq : tail % 128 = q at *
  have hSq : (S.take q).length = q := by rw [List.length_take, h.len]; omega
  obtain ⟨b, hb⟩ : ∃ b, b = S.take q ++ L.flatten := ⟨_, rfl⟩
  have hbl : b.length = q + sumLen L := by rw [hb, List.length_append, hSq]; rfl
  rw [← hb]
  generalize hroom : leftN head tail count = room at *
  have TT := Lib.hid (fun W (hW : Parts W (.slice ao L.length c) L) => total_any room hlb ao c L W hW hl)
  have HT := Lib.hid ht
  have HQ := Lib.hid hq
  have HB := Lib.hid hb
  have HBL := Lib.hid hbl
  have HSQ := Lib.hid hSq
  have HS := Lib.hid hsum
  clear h hD hP hq hb hbl hSq hsum ht hh hlb
  go_enter Try.func19, Try.ntmps19
  go_wp2_with fail
  refine LF.out.mono ?_
  rintro e w0 ⟨rfl, m0, rfl⟩
  go_wp2_with fail
  refine (TT.out (w.drewN m0) (HP.out.below (B := w.heap.size) ((Below.refl _ _).trans (below_drewN (Below.refl _ _) m0)) (Nat.le_refl _))).mono ?_
  rintro e w' ⟨hcase, rfl⟩
  rcases hcase with ⟨hle, rfl⟩ | ⟨hgt, rfl⟩
  · by_cases h0 : sumLen L = 0
    · rw [h0]
      go_wp2_with fail
      go_ret
      exact .inr (.inl ⟨h0, rfl, _, rfl⟩)
    · have h0i : ¬ ((sumLen L : Nat) : Int) = 0 := by omega
      have h0b : ((((sumLen L : Nat) : Int)) == 0) = false := by simpa using h0
      have HLE := Lib.hid hle
      have H0 := Lib.hid h0
      have B0 := Lib.hid (below_drewN (Below.refl w.heap.size w) m0)
      have R0 := Lib.hid (show ApRel w (w.drewN m0) k q S L (.int .i64 0) (.slice (some ⟨k, 0, none⟩) q q) (w.drewN m0) from ⟨0, rfl, Nat.zero_le _, B0.out, .inl ⟨by simp [sumLen], rfl⟩⟩)
      clear hle h0
      go_wp2_with fail
      go_loopw [33, 9] (fun u vb wr => ApRel w (w.drewN m0) k q S L u vb wr) (fun u _ _ => L.length - (intOf u).toNat)
      case atStart => exact R0.out
      case round =>
        obtain ⟨wo, rfl⟩ : ∃ wo : World, wo = wr := ⟨_, rfl⟩
        obtain ⟨j, rfl, hj, hB, hst⟩ := hrel
        have HBW := Lib.hid hB
        by_cases hjl : j < L.length
        · have hji : (j : Int) < (L.length : Int) := by omega
          obtain ⟨ao', c', e', hc⟩ := HP.out.below hB (Nat.le_refl _)
          injection e' with e1 e2 e3
          subst e1 e3
          obtain ⟨a, rfl, aj, cj, hcell, hsl⟩ := hc j hjl
          have stk := sumLen_take hjl
          have ftk := flat_take hjl
          have sle := sumLen_le (L := L) (j + 1)
          obtain ⟨pt, hpt⟩ : ∃ pt, pt = L.getD j [] := ⟨_, rfl⟩
          rw [← hpt] at hcell hsl stk ftk
          obtain ⟨_, _, e5, hno, hsr⟩ := hsl
          injection e5 with e6 e7 e8
          subst e6 e8
          have SR := Lib.hid (Src.any (P := Try.prog) wo (e' := 5) (size := 1) Try.underlying32 aj pt.length cj (bvs pt) (by rw [bvs_length, Nat.mul_one]) (fun h => by rw [hno h]; rfl) hsr (bvs_one pt))
          have FT := Lib.hid ftk
          have ST := Lib.hid stk
          have SL := Lib.hid sle
          have ptb := Lib.hid (show sumLen (L.take j) + pt.length ≤ 900000 from by have := HS.out; omega)
          clear hc hno hsr ftk stk sle hpt hB
          rcases hst with ⟨hz, rfl⟩ | ⟨hz, hown⟩
          · have hxs : ∀ i u, (bvs (S.take q))[i]? = some u → wo.cell? ((⟨k, 0, none⟩ : Addr).add i) = some u := by
              intro i u hu
              rw [Addr.add_mid, cell_of_row wo k (0 + i) _ _ _ ((HBW.out.block k H.out.klt).trans H.out.row), Nat.zero_add]
              simp only [bvs, List.map_take, List.getElem?_take] at hu
              split at hu
              · simpa [bvs] using hu
              · cases hu
            have HX := Lib.hid hxs
            clear hxs
            go_wp2_with (at_builtin; refine wpList_append_full_src _ rfl (.tmp 37) (.tmp 38) 32 32 rfl w.heap.size 5 i0 (.int .u8 0) 1 1 Try.underlying32 hi hz0 hz1 hz2 rfl ⟨k, 0, none⟩ q (bvs (S.take q)) rfl (by rw [bvs_length, HSQ.out, Nat.mul_one]) HX.out _ pt.length (bvs pt) rfl SR.out (by unfold maxLen; have := ptb.out; omega) (by have := ptb.out; omega) HBW.out.size ?_)
            intro v1 w1 hg
            have hrel : ApRel w (w.drewN m0) k q S L (.int .i64 ((j + 1 : Nat) : Int)) v1 w1 := by
              rcases hg with ⟨h1, rfl, rfl⟩ | ⟨h1, ho, hgr, _⟩
              · exact ⟨j + 1, rfl, by omega, HBW.out, .inl ⟨by rw [ST.out, hz, h1], rfl⟩⟩
              · refine ⟨j + 1, rfl, by omega, HBW.out.grown hgr HBW.out.size (fun _ e => by cases e), .inr ⟨by rw [ST.out]; omega, ?_⟩⟩
                have ef : (L.take j).flatten = [] := List.eq_nil_of_length_eq_zero hz
                rw [ST.out, hz, Nat.zero_add, FT.out, ef, List.nil_append, bvs_append]
                exact ho
            have RL := Lib.hid hrel
            clear hrel hg HX
            go_wp2_with fail
            exact ⟨RL.out, by simp [intOf]; omega⟩
          · have HO := Lib.hid hown
            have HZ := Lib.hid hz
            clear hown hz
            go_wp2_with (at_builtin; refine wpList_append_own_src _ rfl (.tmp 37) (.tmp 38) 32 32 rfl w.heap.size 5 i0 (.int .u8 0) 1 1 Try.underlying32 hi hz0 hz1 hz2 rfl _ _ _ rfl HO.out _ pt.length (bvs pt) rfl SR.out (by unfold maxLen; have := ptb.out; omega) (by have := ptb.out; omega) HBW.out.size ?_)
            rintro v1 w1 ⟨ho, hgr, hat⟩
            have hrel : ApRel w (w.drewN m0) k q S L (.int .i64 ((j + 1 : Nat) : Int)) v1 w1 := by
              refine ⟨j + 1, rfl, by omega, HBW.out.grown hgr HBW.out.size (fun i e => (HO.out.lt i e).1), .inr ⟨by rw [ST.out]; have := HZ.out; omega, ?_⟩⟩
              rw [ST.out, FT.out, ← List.append_assoc, bvs_append, ← Nat.add_assoc]
              exact ho
            have RL := Lib.hid hrel
            clear hrel ho hgr hat
            go_wp2_with fail
            exact ⟨RL.out, by simp [intOf]; omega⟩
        · obtain rfl : j = L.length := by omega
          rw [List.take_length] at hst
          rcases hst with ⟨hz, _⟩ | ⟨hz, hown⟩
          · exact absurd hz H0.out
          · rw [← HB.out] at hown
            obtain ⟨kb, cb, rfl, hkb, hcb, hrg⟩ := own_range hown (by omega)
            rw [← HBL.out] at hcb ⊢
            have hkb3 : ¬ own3 d g m kb := fun h => by have := h.elim (fun h => h ▸ HD.out.dlt) (fun h => h.elim (fun h => h ▸ HD.out.glt) (fun h => h ▸ HD.out.mlt)); omega
            have WR := Lib.hid (rwrite_any (H.out.below hB (Nat.le_refl _)) HT.out (HD.out.below hB (Nat.le_refl _)) hr hk hrg hkb3 hcb (by rw [HBL.out]; omega) (by rw [HBL.out]; have := HS.out; omega) hnn)
            rw [HQ.out] at WR
            clear hown hrg hkb3 hkb hz hB
            go_wp2_with fail
            refine WR.out.mono ?_
            rintro e w9 ⟨rfl, hD9, hF9, hok, hbad⟩
            have HD9 := Lib.hid hD9
            have HF9 := Lib.hid hF9
            have HOK := Lib.hid hok
            have HBAD := Lib.hid hbad
            clear hD9 hF9 hok hbad WR
            go_wp2_with fail
            go_ret
            refine .inr (.inr ⟨by have := H0.out; omega, HLE.out, _, rfl, rfl, HD9.out, ?_, ?_, ?_⟩)
            · exact (Frm.of_below HBW.out (Nat.le_refl _)).trans HF9.out
            · intro hx
              obtain ⟨ks, hks, hR⟩ := HOK.out hx
              refine ⟨ks, Nat.le_trans HBW.out.size hks, ?_⟩
              have e1 : tail - q + b.length = tail + sumLen L := by rw [HBL.out]; have := HQ.out; have := Nat.mod_le tail 128; omega
              rw [← e1]
              exact hR
            · intro hx
              exact HBAD.out hx
  · go_wp2_with fail
    go_ret
    exact .inl ⟨hgt, rfl, _, rfl⟩
end Go.Proofs.Ytllnaocnojhlkaa.Dk
