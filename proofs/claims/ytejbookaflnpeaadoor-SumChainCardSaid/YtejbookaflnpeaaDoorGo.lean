/- The law SumGoes: its walk. -/
import Derived.Test.YtejbookaflnpeaaDoorDa
namespace Go.Proofs.YtejbookaflnpeaaDoor
open Go Go.RowKit
set_option linter.unusedVariables false

theorem add_at {w : World} {b : Nat} {h0 : HS} (h : HashAt w b h0.G h0.B h0.n) {S K : List Nat} (ht : Tables w S K) (hbs : b ≠ 1) (hbk : b ≠ 2) {v : Value} {L : List (Value × List UInt8)} (hv : Parts w b v L) (hn : h0.n + (bytesOf L).length < 9223372036854775808) (hL : L.length < 9223372036854775808) :
    Calls Tryd.prog 21 #[.pointer (some ⟨b, 0, none⟩), v] w fun e w' => e = .returned (.tuple #[]) ∧ HashAt w' b (feed S K h0 (bytesOf L)).G (feed S K h0 (bytesOf L)).B (feed S K h0 (bytesOf L)).n ∧ Hs w w' b := add_any h ht hbs hbk hv hn hL
theorem Src.ofOwn {w : World} {base : Nat} {v : Value} {xs : List UInt8} {b : Nat} (h : w.ownsRow base 5 1 v xs.length (bvs xs)) (hb : b < base) : Src w b v xs := by
  have hl := h.lt
  obtain ⟨ao, c, hv, hc, hno, hs⟩ := Bs.ofOwn h
  refine ⟨ao, c, hv, hc, hno, fun a ha hp => ?_⟩
  have := hl a.block (by rw [hv, ha]; rfl)
  exact ⟨by omega, this.2, hs a ha⟩
theorem Parts.one {w : World} {b g t : Nat} {v1 : Value} {x1 : List UInt8} (hg : w.heap[g]? = some (.cells #[v1] t (0, 0))) (hne : g ≠ b) (h1 : Src w b v1 x1) : Parts w b (.slice (some ⟨g, 0, none⟩) 1 1) [(v1, x1)] := by
  refine ⟨some ⟨g, 0, none⟩, 1, rfl, (by intro e; cases e), fun a ha _ => ?_⟩
  cases ha
  refine ⟨hne, (Array.getElem?_eq_some_iff.1 hg).1, fun j p hj => ?_⟩
  match j, hj with
  | 0, hj =>
    obtain rfl : (v1, x1) = p := by simpa using hj
    refine ⟨?_, h1⟩
    rw [Addr.add_mid, Nat.zero_add, cell_of_row w g 0 _ _ _ hg]; rfl
  | j + 1, hj => simp at hj
theorem own_rebase {w : World} {base base' : Nat} {e : TypeId} {size : Nat} {v : Value} {n : Nat} {xs : List Value} (h : w.ownsRow base e size v n xs) (hb : ∀ g, v.ownBlock = some g → base' ≤ g) : w.ownsRow base' e size v n xs := by
  refine ⟨h.1, ?_⟩
  rcases h.2 with h2 | ⟨g, cap, cur, e, h1, rest⟩
  · exact Or.inl h2
  · exact Or.inr ⟨g, cap, cur, e, hb g (by rw [e]; rfl), rest⟩
theorem GiRel.start {w : World} {base gm : Nat} {v : Value} {xs : List UInt8} (h : w.ownsRow base 5 1 v xs.length (bvs xs)) (hg : v.ownBlock = some gm) : w.ownsRow gm 5 1 v xs.length ((xs.map fun x => (x.toNat : Int)).map (Value.int .u8)) := by
  have e : (xs.map fun x => (x.toNat : Int)).map (Value.int .u8) = bvs xs := by simp [bvs, bv, Function.comp_def]
  rw [e]
  exact own_rebase h (fun g hg' => by rw [hg] at hg'; cases hg'; exact Nat.le_refl _)
theorem gi_at {wr : World} {ao : Option Addr} {base gm n c k : Nat} {zs : List Int} (h : wr.ownsRow base 5 1 (.slice ao n c) n (zs.map (Value.int .u8))) (hg : (Value.slice ao n c).ownBlock = some gm) (hz : zs.length = n) (hk : k < n) :
    ao = some ⟨gm, 0, none⟩ ∧ wr.cell? ⟨gm, k, none⟩ = some (.int .u8 (zs.getD k 0)) ∧ wr.frozen? ⟨gm, k, none⟩ = false := by
  rcases h.2 with ⟨e, e0⟩ | ⟨g, cap, cur, e, _⟩
  · omega
  · injection e with e1 e2 e3
    subst e1 e3
    obtain rfl : g = gm := by simpa [Value.ownBlock] using hg
    refine ⟨rfl, ?_, h.frozenAt k⟩
    rw [h.cellAt k (by omega)]
    have : k < zs.length := by omega
    simp [List.getD, this]
/-- Where the loop over the pieces stands. -/
def GoRel (w : World) (b : Nat) (L : List (Value × List UInt8)) (va u : Value) (wr : World) : Prop :=
  ∃ k : Nat, u = .int .i64 (k : Int) ∧ k ≤ L.length ∧ HashAt wr b (feed S0 K0 H0 (bytesOf (L.take k))).G (feed S0 K0 H0 (bytesOf (L.take k))).B (feed S0 K0 H0 (bytesOf (L.take k))).n ∧
    wr.ownsRow (b + 1) 5 1 va (bytesOf (L.take k)).length (bvs (bytesOf (L.take k))) ∧ (bytesOf (L.take k)).length ≤ 300 * k ∧ Below w.heap.size w wr
/-- Where the loop over a piece stands, which turns its bytes. -/
def GiRel (w1 : World) (gm n : Nat) (v : Value) (u : Value) (wr : World) : Prop :=
  ∃ (k : Nat) (zs : List Int), u = .int .i64 (k : Int) ∧ k ≤ n ∧ zs.length = n ∧ wr.ownsRow gm 5 1 v n (zs.map (Value.int .u8)) ∧ Hs w1 wr gm
set_option maxRecDepth 100000 in
set_option maxHeartbeats 1000000 in
theorem goes_long {w : World} {ao : Option Addr} {c : Nat} {L : List (Value × List UInt8)} (ht : Tables w S0 K0) (hL : 12 < L.length) :
    Calls Tryd.prog 6 #[.slice ao L.length c] w fun e w' => e = .returned (.bool true) ∧ Below w.heap.size w w' := by
  have hi : (12 : Int) < (L.length : Int) := by omega
  have HK := Lib.hid (known_any ht)
  clear ht
  go_enter Tryd.func6, Tryd.ntmps6
  go_wp2_with fail
  refine HK.out.mono ?_
  rintro e w0 ⟨rfl, hB0⟩
  go_wp2_with fail
  go_ret
  exact ⟨rfl, hB0⟩
set_option maxRecDepth 100000 in
set_option maxHeartbeats 2000000 in
theorem goes_short {w : World} {v : Value} {L : List (Value × List UInt8)} (h : Pt w v L) (ht : Tables w S0 K0) (hL : L.length ≤ 12) :
    Calls Tryd.prog 6 #[v] w fun e w' => e = .returned (.bool true) ∧ Below w.heap.size w w' := by
  obtain ⟨i0, hi0, hz0, hz1, hz2⟩ := info_parts Tryd.info5
  have hi : (L.length : Int) ≤ 12 := by omega
  have TL := ht.lt
  have HK := Lib.hid (known_any ht)
  obtain ⟨ao, c, rfl, hno, _⟩ := id h
  have HT := Lib.hid ht
  have HP := Lib.hid h
  have zc := zero_hash
  clear ht h
  go_enter Tryd.func6, Tryd.ntmps6
  go_wp2_with fail
  refine HK.out.mono ?_
  rintro e w0 ⟨rfl, hB0⟩
  have z0 := hB0.size
  obtain ⟨w1, hw1⟩ : ∃ w1, w1 = w0.alloc (.cells Z73 38) := ⟨_, rfl⟩
  have B1 : Below w.heap.size w w1 := by rw [hw1]; exact hB0.alloc z0 _
  have n1 : w1.heap.size = w0.heap.size + 1 := by rw [hw1]; simp
  have h1 : HashAt w1 w0.heap.size H0.G H0.B H0.n := ⟨rfl, rfl, by rw [hw1]; exact heap_alloc_new w0 _⟩
  have SM := Lib.hid (sum_any h1 (HT.out.below B1 (Nat.le_refl _)) (by simp [H0]))
  have HW1 := Lib.hid hw1
  have N1 := Lib.hid n1
  have H1 := Lib.hid h1
  clear HK hw1 n1 h1
  go_wp2_with fail
  rw [← HW1.out]
  refine SM.out.mono ?_
  rintro e w2 ⟨rfl, B2⟩
  have n1 := N1.out
  have B2' := B1.trans (B2.mono B1.size)
  have O := Lib.hid (of_any (Pt.none w2) (HT.out.below B2' (Nat.le_refl _)) (by decide) (by decide))
  have h2 := H1.out.below B2 (by omega)
  clear SM HW1 n1
  go_wp2_with fail
  refine O.out.mono ?_
  rintro e w3 ⟨rfl, B3⟩
  have n1 := N1.out
  have n2 := B2.size
  have B3' := B2'.trans (B3.mono B2'.size)
  have h3 := h2.below B3 (by omega)
  have hq : shaL S0 K0 (bytesOf []) = shaOf S0 K0 H0 := rfl
  rw [hq]
  have nq : ∀ W, (binOp .neq 29 (.agg (bvs (shaOf S0 K0 H0)).toArray) (.agg (bvs (shaOf S0 K0 H0)).toArray)).run Tryd.prog W = .ok (.bool false) W := fun W => by
    rw [neq_sum _ _ (shaOf_length _ _ _) (shaOf_length _ _ _)]; simp
  have H3 := Lib.hid h3
  clear O B2 B2' B1 h2 h3 hq H1 n1 n2 N1
  go_wp2_with fail
  go_loopw [4, 19] (fun va u wr => GoRel w w0.heap.size L va u wr) (fun _ u _ => L.length - (intOf u).toNat)
  case atStart => exact ⟨0, rfl, Nat.zero_le _, H3.out, World.ownsRow_nil _ _ _ _, Nat.le_refl _, B3'⟩
  case round =>
    clear H3 B3' B3 nq
    obtain ⟨wo, rfl⟩ : ∃ wo : World, wo = wr := ⟨_, rfl⟩
    obtain ⟨k, rfl, hk, hH, hown, hlen, hBr⟩ := hrel
    by_cases hkl : k < L.length
    · obtain ⟨ad, rfl⟩ : ∃ ad, ao = some ad := by
        cases ao with
        | none => have := hno rfl; omega
        | some ad => exact ⟨ad, rfl⟩
      obtain ⟨ao', c', hv', _, hs'⟩ := HP.out.below hBr (Nat.le_refl _)
      obtain ⟨rfl, rfl⟩ : some ad = ao' ∧ c = c' := by simpa using hv'
      obtain ⟨p, hp⟩ : ∃ p, p = L[k] := ⟨_, rfl⟩
      obtain ⟨cell, _⟩ := hs' ad rfl k p (by rw [hp]; exact List.getElem?_eq_getElem hkl)
      obtain ⟨ao', c', hv'', _, hs''⟩ := HP.out
      obtain ⟨rfl, rfl⟩ : some ad = ao' ∧ c = c' := by simpa using hv''
      have src := (hs'' ad rfl k p (by rw [hp]; exact List.getElem?_eq_getElem hkl)).2
      have htk := bytesOf_take L k hkl
      rw [← hp] at htk
      obtain ⟨v1, xs⟩ := p
      dsimp only at htk cell src
      obtain ⟨a1, c1, rfl, hc1, hno1, hs1⟩ := id src
      have q0 : (0 : Int) ≤ (k : Int) := by omega
      have q1 : (k : Int) < (L.length : Int) := by omega
      have HTK := Lib.hid htk
      have SRC := Lib.hid src
      clear hs' hv' hs'' hv'' hp htk src hno1 hs1
      by_cases hx : 300 < xs.length
      · have hxi : (300 : Int) < (xs.length : Int) := by omega
        clear hown hH
        go_wp2_with fail
        go_ret
        exact ⟨rfl, hBr⟩
      · have hxi : ¬ (300 : Int) < (xs.length : Int) := by omega
        obtain ⟨al, hal⟩ : ∃ al, al = bytesOf (L.take k) := ⟨_, rfl⟩
        rw [← hal] at hH hown hlen
        have HAL := Lib.hid hal
        have HH := Lib.hid hH
        have HO := Lib.hid hown
        have zr := hBr.size
        have z3 := hH.lt
        have src1 := Bs.app (SRC.out.below (hBr.alloc zr (.cells #[] 5)) (Nat.le_refl _))
        have S1 := Lib.hid src1.1
        have hown0 : (wo.alloc (.cells #[] 5)).ownsRow wo.heap.size 5 1 (.slice (some ⟨wo.heap.size, 0, none⟩) 0 0) 0 [] := World.ownsRow_made wo #[] 0 (Nat.le_refl _) (Nat.zero_le _) rfl
        clear hH hown hal src1
        go_wp2_with (at_builtin; refine wpList_append_own_src _ rfl (.tmp 26) (.tmp 27) 22 22 rfl wo.heap.size 5 i0 (.int .u8 0) 1 1 Tryd.underlying22 hi0 hz0 hz1 hz2 rfl _ 0 [] rfl hown0 _ xs.length (bvs xs) rfl S1.out ?b1 ?b2 (by simp) ?next)
        case b1 => unfold maxLen; omega
        case b2 => omega
        case next =>
          rintro v1 w4 ⟨hown1, hgrow, hat⟩
          obtain ⟨gm, hgm, hgm1, hgm2⟩ : ∃ gm, v1.ownBlock = some gm ∧ wo.heap.size ≤ gm ∧ gm < w4.heap.size := by
            have hlt := hown1.lt
            rcases hat with h | h
            · exact ⟨_, h, Nat.le_refl _, (hlt _ h).2⟩
            · exact ⟨_, h, by simp, (hlt _ h).2⟩
          obtain ⟨am, cm, rfl⟩ := own_sl hown1
          have B4 : Below wo.heap.size wo w4 := ((Below.refl _ _).alloc (Nat.le_refl _) _).grown hgrow (by simp) (fun k e => by cases e; exact Nat.le_refl _)
          have z4 := B4.size
          obtain ⟨w5, hw5⟩ : ∃ w5, w5 = w4.alloc (.cells #[.slice am xs.length cm] 22) := ⟨_, rfl⟩
          have B5 : Below w4.heap.size w4 w5 := by rw [hw5]; exact (Below.refl _ _).alloc (Nat.le_refl _) _
          have r5 : w5.heap[w4.heap.size]? = some (.cells #[.slice am xs.length cm] 22 (0, 0)) := by rw [hw5]; exact heap_alloc_new w4 _
          have B5' : Below wo.heap.size wo w5 := B4.trans (B5.mono z4)
          have o5 := own_keep (w' := w5) hown1 (fun g hg => B5.block g (hown1.lt g hg).2)
          have A := add_at (HH.out.below B5' z3) (HT.out.below (hBr.trans (B5'.mono zr)) (Nat.le_refl _)) (by omega) (by omega) (Parts.one r5 (by omega) (Src.ofOwn o5 (b := w0.heap.size) z3)) (by rw [feed_n]; simp [H0, bytesOf]; omega) (by simp)
          rw [show bytesOf [(Value.slice am xs.length cm, xs)] = xs by simp [bytesOf], ← feed_append, HAL.out, ← HTK.out] at A
          have HA := Lib.hid A
          have HW5 := Lib.hid hw5
          have O5 := Lib.hid o5
          clear A hw5 o5 r5 hown1 hgrow hat hown0 S1 B4 B5
          go_wp2_with fail
          rw [← HW5.out]
          refine HA.out.mono ?_
          rintro e w6 ⟨rfl, h6, R6⟩
          have z6 := R6.size
          have o6 := own_keep (w' := w6) O5.out (fun g hg => R6.block g (O5.out.lt g hg).2 (by have := (O5.out.lt g hg).1; omega))
          have z5 := B5'.size
          have HH6 := Lib.hid h6
          have O6 := Lib.hid o6
          have z56 : gm < w6.heap.size := (o6.lt gm hgm).2
          clear HA HW5 h6 o6 O5
          go_wp2_with fail
          go_loopw [34] (fun u wr' => GiRel w6 gm xs.length (.slice am xs.length cm) u wr') (fun u _ => xs.length - (intOf u).toNat)
          case atStart => exact ⟨0, xs.map fun x => (x.toNat : Int), rfl, Nat.zero_le _, by simp, GiRel.start O6.out hgm, Hs.refl _ _⟩
          case round =>
            obtain ⟨j, zs, rfl, hj, hzs, hoj, hRj⟩ := hrel
            by_cases hjl : j < xs.length
            · obtain ⟨hao, hcell, hfr⟩ := gi_at hoj hgm hzs hjl
              subst hao
              have hoj2 : ∀ z : Int, (wr.setCell ⟨gm, j, none⟩ (.int .u8 z)).ownsRow gm 5 1 (.slice (some ⟨gm, 0, none⟩) xs.length cm) xs.length ((zs.set j z).map (Value.int .u8)) := fun z => by
                have := (hoj.stored j (.int .u8 z)).1
                simpa [List.map_set] using this
              have HJ := Lib.hid hoj2
              have hki : (j : Int) < (xs.length : Int) := by omega
              clear hoj hoj2
              go_wp2_with fail
              go_roundw
              case rel => exact ⟨j + 1, zs.set j _, by go_num, by omega, by simp [hzs], HJ.out _, hRj.setCell _ _⟩
              case measure => simp [intOf]; omega
            · obtain rfl : j = xs.length := by omega
              have zj := hRj.size
              have hB5w := hBr.trans (B5'.mono zr)
              have hB6w := hB5w.trans (R6.below (B := w.heap.size) (by omega) (by omega))
              have hB7w := hB6w.trans (hRj.below (B := w.heap.size) (by omega) (by omega))
              have h7 : HashAt wr w0.heap.size _ _ _ := ⟨HH6.out.1, HH6.out.2.1, (hRj.block _ (by omega) (by omega)).trans HH6.out.2.2⟩
              have hal7 := own_keep (w' := wr) HO.out (fun g hg => by
                have hlt := HO.out.lt g hg
                exact ((hRj.block g (by omega) (by omega)).trans (R6.block g (by omega) (by omega))).trans (B5'.block g hlt.2))
              have src7 := Bs.app (SRC.out.below hB7w (Nat.le_refl _))
              have S7 := Lib.hid src7.1
              have H7 := Lib.hid h7
              have B7 := Lib.hid hB7w
              clear hB5w hB6w src7 h7 hoj
              go_wp2_with (at_builtin; refine wpList_append_own_src _ rfl (.tmp 44) (.tmp 45) 22 22 rfl (w0.heap.size + 1) 5 i0 (.int .u8 0) 1 1 Tryd.underlying22 hi0 hz0 hz1 hz2 rfl _ al.length (bvs al) rfl hal7 _ xs.length (bvs xs) rfl S7.out ?d1 ?d2 (by omega) ?next2)
              case d1 => unfold maxLen; omega
              case d2 => omega
              case next2 =>
                rintro v2 w8 ⟨hown2, hgrow2, hat2⟩
                have hb8 : Below w.heap.size w w8 := B7.out.grown hgrow2 (by omega) (fun g e => by have := HO.out.lt g e; omega)
                have h8 : HashAt w8 w0.heap.size _ _ _ := ⟨H7.out.1, H7.out.2.1, (hgrow2.block _ (by omega) (by
                  intro e
                  have := HO.out.lt _ e.symm
                  omega)).trans H7.out.2.2⟩
                have ee : bvs al ++ bvs xs = bvs (bytesOf (L.take (k + 1))) := by rw [HTK.out, HAL.out]; simp [bvs]
                have el : al.length + xs.length = (bytesOf (L.take (k + 1))).length := by rw [HTK.out, HAL.out, List.length_append]
                have hlen2 : (bytesOf (L.take (k + 1))).length ≤ 300 * (k + 1) := by rw [← el]; omega
                rw [ee, el] at hown2
                have z8 := hgrow2.size
                obtain ⟨a2, c2, rfl⟩ := own_sl hown2
                obtain ⟨D, hD⟩ : ∃ D, D = (bvs (shaOf S0 K0 (feed S0 K0 H0 (bytesOf (L.take (k + 1)))))).toArray := ⟨_, rfl⟩
                have sumC : ∀ W, Below w8.heap.size w8 W → Calls Tryd.prog 20 #[.pointer (some ⟨w0.heap.size, 0, none⟩)] W fun e w' => e = .returned (.agg D) ∧ Below w8.heap.size w8 w' := fun W hW =>
                  (sum_any (h8.below hW (by omega)) (HT.out.below (hb8.trans (hW.mono hb8.size)) (Nat.le_refl _)) (by rw [feed_n]; simp [H0]; omega)).mono fun _ _ h' => ⟨by rw [hD]; exact h'.1, hW.trans (h'.2.mono hW.size)⟩
                have ofC : ∀ W, Below w8.heap.size w8 W → Calls Tryd.prog 18 #[.slice (some ⟨W.heap.size, 0, none⟩) 1 1] (W.alloc (.cells #[.slice a2 (bytesOf (L.take (k + 1))).length c2] 22)) fun e w' => e = .returned (.agg D) ∧ Below w8.heap.size w8 w' := fun W hW => by
                  have b1 : Below w8.heap.size w8 (W.alloc (.cells #[.slice a2 (bytesOf (L.take (k + 1))).length c2] 22)) := hW.alloc hW.size _
                  have o := of_any (Pt.one (heap_alloc_new W _) ((Bs.ofOwn hown2).below b1 (Nat.le_refl _))) (HT.out.below (hb8.trans (b1.mono hb8.size)) (Nat.le_refl _)) (by simp [bytesOf]; simp [bytesOf] at hlen2; omega) (by simp)
                  rw [show bytesOf [(Value.slice a2 (bytesOf (L.take (k + 1))).length c2, bytesOf (L.take (k + 1)))] = bytesOf (L.take (k + 1)) by simp [bytesOf]] at o
                  exact o.mono fun _ _ h' => ⟨by rw [hD]; exact h'.1, b1.trans (h'.2.mono b1.size)⟩
                have nq : ∀ W, (binOp .neq 29 (.agg D) (.agg D)).run Tryd.prog W = .ok (.bool false) W := fun W => by
                  rw [hD, neq_sum _ _ (shaOf_length _ _ _) (shaOf_length _ _ _)]; simp
                have fin : ∀ W, Below w8.heap.size w8 W → GoRel w w0.heap.size L (.slice a2 (bytesOf (L.take (k + 1))).length c2) (.int .i64 ((k : Int) + 1)) W := fun W hW =>
                  ⟨k + 1, by go_num, by omega, h8.below hW (by omega), own_keep hown2 (fun g hg => hW.block g (hown2.lt g hg).2), hlen2, hb8.trans (hW.mono hb8.size)⟩
                have SUMC := Lib.hid sumC
                have OFC := Lib.hid ofC
                have FIN := Lib.hid fin
                generalize (bytesOf (L.take (k + 1))).length = nn at *
                clear sumC ofC fin ee el hlen2 hown2 hgrow2 hat2 h8 hD hal7 S7 H7 B7 HH6
                go_wp2_with fail
                refine (SUMC.out _ (Below.refl _ _)).mono ?_
                rintro e w9 ⟨rfl, b9⟩
                go_wp2_with fail
                refine (OFC.out _ b9).mono ?_
                rintro e w10 ⟨rfl, b10⟩
                go_wp2_with fail
                refine (SUMC.out _ b10).mono ?_
                rintro e w11 ⟨rfl, b11⟩
                go_wp2_with fail
                refine (OFC.out _ b11).mono ?_
                rintro e w12 ⟨rfl, b12⟩
                go_wp2_with fail
                go_roundw
                case rel => exact FIN.out _ b12
                case measure => simp [intOf]; omega
    · obtain rfl : k = L.length := by omega
      clear hown hH
      go_wp2_with fail
      go_ret
      exact ⟨rfl, hBr⟩
theorem goes_any {w : World} {v : Value} {L : List (Value × List UInt8)} (h : Pt w v L) (ht : Tables w S0 K0) :
    Calls Tryd.prog 6 #[v] w fun e w' => e = .returned (.bool true) ∧ Below w.heap.size w w' := by
  by_cases hL : 12 < L.length
  · obtain ⟨ao, c, rfl, _⟩ := h
    exact goes_long ht hL
  · exact goes_short h ht (by omega)
end Go.Proofs.YtejbookaflnpeaaDoor
