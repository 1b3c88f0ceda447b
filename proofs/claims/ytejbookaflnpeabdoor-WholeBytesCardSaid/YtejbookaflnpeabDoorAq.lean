/- A part is added: the walk. -/
import Derived.Test.YtejbookaflnpeabDoorAp
import Derived.DataElems
namespace Go.Proofs.YtejbookaflnpeabDoor
open Go Go.RowKit
set_option linter.unusedVariables false

def ApRel (w : World) (b : Nat) (h0 : HS) (S K : List Nat) (xs : List UInt8) (u : Value) (wr : World) : Prop :=
  ∃ k, k ≤ xs.length ∧ Src wr b u (xs.drop k) ∧ HashAt wr b (feed S K h0 (xs.take k)).G (feed S K h0 (xs.take k)).B (feed S K h0 (xs.take k)).n ∧ (feed S K h0 (xs.take k)).n = h0.n + k ∧ Hs w wr b
def lenOf : Value → Nat
  | .slice _ n _ => n
  | _ => 0
theorem Hs.setRow {w w' : World} {b : Nat} (h : Hs w w' b) (cs : Array Value) : Hs w (w'.setRow b cs) b :=
  ⟨h.os, h.tape, h.output, by simpa using h.size, fun g hg hb => (setRow_other w' b g cs hb).trans (h.block g hg hb)⟩

theorem add_block (a : Addr) (m : Nat) : (a.add m).block = a.block := by unfold Addr.add; split <;> rfl
theorem Src.advance {w : World} {b : Nat} {ad : Addr} {c m : Nat} {Y : List UInt8} (h : Src w b (.slice (some ad) Y.length c) Y) (hm : m ≤ Y.length) :
    Src w b (.slice (if c = m then some ad else some (ad.add m)) (Y.length - m) (c - m)) (Y.drop m) := by
  obtain ⟨ao, c', hv, hc, hno, hs⟩ := h
  obtain ⟨rfl, _, rfl⟩ : some ad = ao ∧ Y.length = Y.length ∧ c = c' := by simpa using hv
  have hl : (Y.drop m).length = Y.length - m := by simp
  by_cases hcm : c = m
  · rw [if_pos hcm]
    refine ⟨some ad, c - m, by rw [hl], by rw [hl]; omega, (by intro e; cases e), fun a ha hp => ?_⟩
    cases ha
    obtain ⟨h1, h2, h3⟩ := hs ad rfl (by omega)
    refine ⟨h1, h2, fun j u hu => ?_⟩
    have : (bvs (Y.drop m)).length = 0 := by rw [bvs_length, hl]; omega
    rw [List.getElem?_eq_none (by omega)] at hu
    cases hu
  · rw [if_neg hcm]
    refine ⟨some (ad.add m), c - m, by rw [hl], by rw [hl]; omega, (by intro e; cases e), fun a ha hp => ?_⟩
    cases ha
    obtain ⟨h1, h2, h3⟩ := hs ad rfl (by omega)
    refine ⟨by rw [add_block]; exact h1, by rw [add_block]; exact h2, fun j u hu => ?_⟩
    rw [Addr.add_add]
    refine h3 (m + j) u ?_
    simpa [bvs, List.map_drop] using hu
theorem ap_next {w wr wf : World} {b : Nat} {h0 : HS} {S K : List Nat} {xs Y : List UInt8} {k n1 c m : Nat} {G1 : List Nat} {B1 : List UInt8} {ad : Addr} {v : Value} (hY : Y = xs.drop k) (hYl : Y.length = xs.length - k) (hk : k ≤ xs.length)
    (hE : ⟨G1, B1, n1⟩ = feed S K h0 (xs.take k)) (hN : n1 = h0.n + k) (hB : B1.length = 64) (m0 : 0 < m) (m1 : m ≤ Y.length) (m2 : n1 % 64 + m ≤ 64) (hSrc : Src wr b (.slice (some ad) Y.length c) Y) (hR : Hs w wf b) (hR' : Hs wr wf b)
    (hH : HashAt wf b (if (n1 + m) % 64 = 0 then mixG G1 S K (lay B1 (n1 % 64) (Y.take m)) else G1) (lay B1 (n1 % 64) (Y.take m)) (n1 + m)) (hv : v = .slice (if c = m then some ad else some (ad.add m)) (Y.length - m) (c - m)) : ApRel w b h0 S K xs v wf := by
  have hl : (Y.take m).length = m := by rw [List.length_take]; omega
  have hf : feed S K h0 (xs.take (k + m)) = ⟨if (n1 + m) % 64 = 0 then mixG G1 S K (lay B1 (n1 % 64) (Y.take m)) else G1, lay B1 (n1 % 64) (Y.take m), n1 + m⟩ := by
    rw [List.take_add, ← hY]
    unfold feed
    rw [List.foldl_append]
    show feed S K (feed S K h0 (xs.take k)) (Y.take m) = _
    rw [← hE, feed_block S K (Y.take m) ⟨G1, B1, n1⟩ hB (by omega) (by rw [hl]; exact m2), hl]
    split <;> rfl
  refine ⟨k + m, by omega, ?_, ?_, ?_, hR⟩
  · have := (hSrc.hs hR').advance m1
    rw [hY, List.drop_drop, ← hY] at this
    rw [hv]
    exact this
  · rw [hf]; exact hH
  · rw [hf]; show n1 + m = _; omega

set_option maxRecDepth 100000 in
set_option maxHeartbeats 2000000 in
theorem addPart_any {w : World} {b : Nat} {h0 : HS} (h : HashAt w b h0.G h0.B h0.n) (S K : List Nat) (hS : S.length = 8) (hK : K.length = 64)
    (hsc : ∀ i, i < 8 → w.cell? ⟨1, i, none⟩ = some (.int .u32 ((S.getD i 0 : Nat) : Int))) (hkc : ∀ i, i < 64 → w.cell? ⟨3, i, none⟩ = some (.int .u32 ((K.getD i 0 : Nat) : Int))) (hbs : b ≠ 1) (hbk : b ≠ 3)
    (v : Value) (xs : List UInt8) (hv : Src w b v xs) (hn : h0.n + xs.length < 9223372036854775808) :
    Calls Tryd.prog 33 #[.pointer (some ⟨b, 0, none⟩), v] w fun e w' => e = .returned (.tuple #[]) ∧ HashAt w' b (feed S K h0 xs).G (feed S K h0 xs).B (feed S K h0 xs).n ∧ Hs w w' b := by
  have hb := h.lt
  have hgs : 1 < w.heap.size := World.block_lt_of_cell? w _ (hsc 0 (by decide))
  have hgk : 3 < w.heap.size := World.block_lt_of_cell? w _ (hkc 0 (by decide))
  have mx : ∀ (w' : World) (G : List Nat) (B : List UInt8) (n : Nat), Hs w w' b → HashAt w' b G B n → Calls Tryd.prog 45 #[.pointer (some ⟨b, 0, none⟩)] w' fun e w'' => e = .returned (.tuple #[]) ∧ HashAt w'' b (mixG G S K B) B n ∧ Hs w' w'' b := fun w' G B n hR hH =>
    (mix_any hH S K hS hK (fun i hi => (World.cell?_of_block (a := ⟨1, i, none⟩) (hR.block _ hgs (Ne.symm hbs))).trans (hsc i hi)) (fun i hi => (World.cell?_of_block (a := ⟨3, i, none⟩) (hR.block _ hgk (Ne.symm hbk))).trans (hkc i hi)) hbs hbk).mono
      fun _ _ h' => h'
  have MX := Lib.hid mx
  clear mx hsc hkc hbs hbk hgs hgk hS hK
  obtain ⟨ao0, c0, hv0, hr0⟩ := id hv
  subst hv0
  go_enter Tryd.func33, Tryd.ntmps33
  go_wp2_with fail
  go_loopw [1] (fun u wr => ApRel w b h0 S K xs u wr) (fun u _ => lenOf u)
  case atStart => exact ⟨0, Nat.zero_le _, by simpa using hv, by simpa [feed] using h, by simp [feed], Hs.refl _ _⟩
  case round =>
    obtain ⟨k, hk, hSrc, hH, hN, hR⟩ := hrel
    obtain ⟨Y, hY⟩ : ∃ Y, Y = xs.drop k := ⟨_, rfl⟩
    have hYl : Y.length = xs.length - k := by rw [hY]; simp
    obtain ⟨h1, hh1⟩ : ∃ h1, h1 = feed S K h0 (xs.take k) := ⟨_, rfl⟩
    rw [← hY] at hSrc
    rw [← hh1] at hH hN
    have hS0 := hSrc
    obtain ⟨ao, c, rfl, hc, hno, hs⟩ := hSrc
    have SR := Lib.hid hS0
    clear hS0
    have EY := Lib.hid hY
    have LY := Lib.hid hYl
    have E1 := Lib.hid hh1
    clear hY hYl hh1 hr0 hv
    by_cases hz : Y.length = 0
    · have hz' : ¬ (0 : Int) < (Y.length : Int) := by omega
      have hz2 : ¬ 0 < Y.length := by omega
      have hkx : k = xs.length := by have := LY.out; omega
      rw [hkx, List.take_length] at E1
      rw [E1.out] at hH
      go_wp2_with fail
      go_end0
      exact ⟨rfl, hH, hR⟩
    · have hz' : (0 : Int) < (Y.length : Int) := by omega
      have hz2 : 0 < Y.length := by omega
      obtain ⟨ad, rfl⟩ : ∃ ad, ao = some ad := by
        cases ao with
        | none => exact absurd (hno rfl) hz
        | some ad => exact ⟨ad, rfl⟩
      obtain ⟨ha1, ha2, ha3⟩ := hs ad rfl hz2
      obtain ⟨G1, B1, n1⟩ := h1
      dsimp only at hH hN
      have cnt := hH.count
      obtain ⟨q, hq⟩ : ∃ q, q = n1 % 64 := ⟨_, rfl⟩
      have hq64 : q < 64 := by omega
      have hqI : (n1 : Int) % 64 = (q : Int) := by omega
      have sl := fun w' => slice64 b 8 q (q : Int) rfl hq64 .u64 w'
      have HH := Lib.hid hH
      have HN := Lib.hid hN
      have HQ := Lib.hid hq
      have AS := Lib.hid (And.intro ha1 (And.intro ha2 ha3))
      clear hH hN hno hs ha1 ha2 ha3 hq
      go_wp2_with fail
      (refine wp_region_quiet_tail 10 (by kernel_rfl) (by kernel_rfl) ?_; simp only [List.take_succ_cons, List.take_zero, List.drop_succ_cons, List.drop_zero]; (repeat (go_big_quiet_step (fail))); refine wpQuiet_nil ?_; intro _ hw'; obtain ⟨nq, hw''⟩ := hw'; subst hw'')
      obtain ⟨m, hm⟩ : ∃ m, m = Nat.min Y.length (64 - q) := ⟨_, rfl⟩
      have hm1 : m ≤ Y.length := by rw [hm]; exact Nat.min_le_left _ _
      have hm2 : m ≤ 64 - q := by rw [hm]; exact Nat.min_le_right _ _
      have mm : 0 < m := by rw [hm]; exact Nat.lt_min.2 ⟨hz2, by omega⟩
      have hml : (bvs (Y.take m)).length = m := by rw [bvs_length, List.length_take]; omega
      refine wpList_copy_own rfl (.tmp 16) (.tmp 17) 41 41 rfl 5 Tryd.underlying41 (by kernel_rfl) b (8 + q) (64 - q) (64 - q) ad Y.length c (by simp [Act.eval]) (by simp [Act.eval]) _ 54 HH.out.2.2 (bvs (Y.take m)) (by rw [hml, hm]) ?src ?fit ?one ?_
      case src =>
        intro j v hj
        have hj' : (bvs Y)[j]? = some v := by
          simp only [bvs, List.map_take, List.getElem?_take] at hj ⊢
          split at hj
          · exact hj
          · cases hj
        simpa using AS.out.2.2 j v hj'
      case fit =>
        rw [hml]
        have := HH.out.1
        have := HH.out.2.1
        simp [hcells, u32s_length, bvs_length]
        omega
      case one =>
        intro v hv
        obtain ⟨_, _, rfl⟩ := List.mem_map.1 hv
        rfl
      have H5 := (HH.out.drewN nq).laid q (Y.take m) (by rw [← bvs_length, hml]; omega) _ rfl
      have R5 := (hR.drewN nq).setRow ((hcells G1 B1 n1).toArray.toList.take (8 + q) ++ (bvs (Y.take m) ++ (hcells G1 B1 n1).toArray.toList.drop (8 + q + (bvs (Y.take m)).length))).toArray
      have R5' := ((Hs.refl wr b).drewN nq).setRow ((hcells G1 B1 n1).toArray.toList.take (8 + q) ++ (bvs (Y.take m) ++ (hcells G1 B1 n1).toArray.toList.drop (8 + q + (bvs (Y.take m)).length))).toArray
      generalize (wr.drewN nq).setRow b ((hcells G1 B1 n1).toArray.toList.take (8 + q) ++ (bvs (Y.take m) ++ (hcells G1 B1 n1).toArray.toList.drop (8 + q + (bvs (Y.take m)).length))).toArray = w5 at *
      rw [show goInt (bvs (Y.take m)).length = .int .i64 (m : Int) by rw [hml]; rfl]
      have cnt5 := H5.count
      have fr5 := H5.frozen 72
      have HH5 := Lib.hid H5
      have HM := Lib.hid hm
      have p0 : (0 : Int) ≤ (m : Int) := by omega
      have p1 : (m : Int) ≤ (Y.length : Int) := by omega
      have p2 : (m : Int) ≤ (c : Int) := by omega
      have p3 : m ≤ c := by omega
      have n63 : n1 + m < 9223372036854775808 := by have := HN.out; have := LY.out; omega
      have wn : IntKind.u64.wrap ((n1 : Int) + (m : Int)) = ((n1 + m : Nat) : Int) := by rw [IntKind.wrap_u64]; omega
      have fin : ∀ (wf : World) (v : Value), Hs w wf b → Hs wr wf b → HashAt wf b (if (n1 + m) % 64 = 0 then mixG G1 S K (lay B1 (n1 % 64) (Y.take m)) else G1) (lay B1 (n1 % 64) (Y.take m)) (n1 + m) → v = .slice (if c = m then some ad else some (ad.add m)) (Y.length - m) (c - m) → ApRel w b h0 S K xs v wf :=
        fun wf v r r' hh hv => ap_next EY.out LY.out hk E1.out HN.out HH.out.2.1 mm hm1 (by have := HQ.out; omega) SR.out r r' hh hv
      have FIN := Lib.hid fin
      have R := Lib.hid R5
      have R' := Lib.hid R5'
      rw [HQ.out] at HH5
      clear H5 hm hml cnt sl HH fin R5 R5'
      by_cases h64 : (n1 + m) % 64 = 0
      · have h64' : ((n1 : Int) + (m : Int)) % 64 = 0 := by omega
        rw [if_pos h64] at FIN
        have w6 := Lib.hid (fun x hx => HH5.out.setN (n1 + m) x hx)
        by_cases hcm : c = m
        · rw [if_pos hcm] at FIN
          go_wp2_with (go_at_call 45; refine (MX.out _ _ _ _ (R.out.setCell 72 _) (w6.out _ (by omega))).mono ?_; rintro e w7 ⟨rfl, hH7, hR7⟩)
          exact ⟨FIN.out _ _ ((R.out.setCell 72 _).trans hR7) ((R'.out.setCell 72 _).trans hR7) hH7 (by simp [hcm]), by simp [lenOf]; omega⟩
        · rw [if_neg hcm] at FIN
          go_wp2_with (go_at_call 45; refine (MX.out _ _ _ _ (R.out.setCell 72 _) (w6.out _ (by omega))).mono ?_; rintro e w7 ⟨rfl, hH7, hR7⟩)
          exact ⟨FIN.out _ _ ((R.out.setCell 72 _).trans hR7) ((R'.out.setCell 72 _).trans hR7) hH7 rfl, by simp [lenOf]; omega⟩
      · have h64' : ¬ ((n1 : Int) + (m : Int)) % 64 = 0 := by omega
        rw [if_neg h64] at FIN
        have w6 := Lib.hid (fun x hx => HH5.out.setN (n1 + m) x hx)
        by_cases hcm : c = m
        · rw [if_pos hcm] at FIN
          go_wp2_with fail
          exact ⟨FIN.out _ _ (R.out.setCell 72 _) (R'.out.setCell 72 _) (w6.out _ (by omega)) (by simp [hcm]), by simp [lenOf]; omega⟩
        · rw [if_neg hcm] at FIN
          go_wp2_with fail
          exact ⟨FIN.out _ _ (R.out.setCell 72 _) (R'.out.setCell 72 _) (w6.out _ (by omega)) rfl, by simp [lenOf]; omega⟩
end Go.Proofs.YtejbookaflnpeabDoor
