/- The walk of EventWrites. -/
import Derived.Test.YtgdoolchmimgbaaGreatDoorIV
import Derived.Test.YtgdoolchmimgbaaGreatDoorIQ
import Derived.Test.YtgdoolchmimgbaaGreatDoorG2
import Derived.Test.YtgdoolchmimgbaaGreatDoorGQ
import Derived.Test.YtgdoolchmimgbaaGreatDoorGH
namespace Go.Proofs.YtgdoolchmimgbaaGreatDoor.Wi
open Go Go.RowKit
set_option linter.unusedVariables false
set_option linter.unusedSimpArgs false
def ebs (l : List Ev) : List UInt8 := (l.map Ev.eb).flatten
theorem ebs_app (a b : List Ev) : ebs (a ++ b) = ebs a ++ ebs b := by simp [ebs]
theorem ebs_one (x : Ev) : ebs [x] = x.eb := by simp [ebs]
theorem ebs_take {l : List Ev} {j : Nat} {x : Ev} (hx : l[j]? = some x) : ebs (l.take (j + 1)) = ebs (l.take j) ++ x.eb := by
  rw [List.take_add_one, hx]
  simp [ebs]
theorem ebs_drop {l : List Ev} {j : Nat} {x : Ev} (hx : l[j]? = some x) (ms : List UInt8) : (ebs l ++ ms).drop (ebs (l.take j)).length = x.eb ++ (ebs (l.drop (j + 1)) ++ ms) := by
  have hjl := (List.getElem?_eq_some_iff.1 hx).1
  have e1 : l = l.take j ++ ([x] ++ l.drop (j + 1)) := by
    have h := List.take_append_drop j l
    rw [List.drop_eq_getElem_cons hjl, (List.getElem?_eq_some_iff.1 hx).2] at h
    exact h.symm
  have e2 : ebs l = ebs (l.take j) ++ (x.eb ++ ebs (l.drop (j + 1))) := by
    conv => lhs; rw [e1]
    rw [ebs_app, ebs_app, ebs_one]
  rw [e2, List.append_assoc, List.drop_left' rfl, List.append_assoc]
theorem ebs_short : ∀ {l : List Ev}, (∀ x ∈ l, x.vE = 0) → (ebs l).length ≤ 800 * l.length
  | [], _ => by simp [ebs]
  | x :: l, h => by
    have h1 := eb_len (h x (by simp))
    have h2 := ebs_short (l := l) fun y hy => h y (by simp [hy])
    rw [show ebs (x :: l) = x.eb ++ ebs l by simp [ebs], List.length_append, List.length_cons]
    omega
theorem str_nil : (str [] : ByteArray) = ⟨#[]⟩ := rfl
theorem str_app2 (a b : List UInt8) : str a ++ str b = str (a ++ b) := by simp [str, ByteArray.ext_iff]
def ewR (w2 : World) (q : Nat) (l : List Ev) (sv i : Value) (wr : World) : Prop := ∃ (j : Nat) (r : Option Nat) (S : ByteArray), i = .int .i64 (j : Int) ∧ sv = .string S ∧ S = str (ebs (l.take j)) ∧ j ≤ l.length ∧ (∀ x ∈ l.take j, x.vE = 0) ∧ Wr wr q r (ebs (l.take j)) ∧ (∀ g, r = some g → w2.heap.size ≤ g) ∧ Below w2.heap.size w2 wr
def erdR (w2 : World) (b : Nat) (r : Option Nat) (l : List Ev) (ms : List UInt8) (i : Value) (wr : World) : Prop := ∃ j : Nat, i = .int .i64 (j : Int) ∧ j ≤ l.length ∧ Rd wr b r (ebs l ++ ms) (ebs (l.take j)).length 0 ∧ Below w2.heap.size w2 wr
theorem take_vE2 {l : List Ev} {j : Nat} {x : Ev} (hx : l[j]? = some x) (h : ∀ y ∈ l.take j, y.vE = 0) (e : x.vE = 0) : ∀ y ∈ l.take (j + 1), y.vE = 0 := by
  intro y hy
  rw [List.take_add_one, hx] at hy
  rcases List.mem_append.1 hy with hy | hy
  · exact h y hy
  · have : y = x := by simpa using hy
    rw [this]; exact e
theorem fine_if (x : Ev) (e9 : Int) (h : e9 = 0 → x.vE = 0) : Fine (if e9 = 0 then x else zE).val := by
  by_cases h0 : e9 = 0
  · rw [if_pos h0]; exact fine (Ev.fits (h h0)).val.1
  · rw [if_neg h0]; exact zV_fine
theorem evR_fine (xs : List UInt8) (k : Nat) (e : Int) : Fine (evR xs k e).1.val := by
  unfold evR
  exact fine_if _ _ fun h => (fe_ok h).2
/-- What a step leaves but for the reader's block. -/
def KpB (b : Nat) (W W' : World) : Prop := W.heap.size ≤ W'.heap.size ∧ ∀ k, k < W.heap.size → k ≠ b → W'.heap[k]? = W.heap[k]?
theorem KpB.refl (b : Nat) (W : World) : KpB b W W := ⟨Nat.le_refl _, fun _ _ _ => rfl⟩
theorem KpB.of {b : Nat} {W W' : World} (h : Below W.heap.size W W') : KpB b W W' := ⟨h.size, fun k hk _ => h.block k hk⟩
/-- An event that was read, the same as x. -/
def UofX (x : Ev) (wy : World) (b : Nat) (q : Value) (W : World) : Prop := ∃ U : Ev, q = .agg U.cells.toArray ∧ U.nz = x.nz ∧ U.At W.heap.size W ∧ U.val.In (wy.heap.size ≤ ·) ∧ b < wy.heap.size
theorem UofX.keep {x : Ev} {wy W W' : World} {b : Nat} {q : Value} (h : UofX x wy b q W) (hk : KpB b W W') : UofX x wy b q W' := by
  obtain ⟨U, h1, h2, h3, h4, h5⟩ := h
  have hv : U.val.At W.heap.size W' := h3.val.keepT h4 (fun k hlt hT => hk.2 k hlt (by omega))
  exact ⟨U, h1, h2, ⟨h3.id, h3.time, h3.kind, h3.a, h3.b, h3.name, h3.text, hv.mono hk.1⟩, h4, h5⟩
structure RdB (w2 wy : World) (b gy : Nat) (r : Option Nat) (xs : List UInt8) (k k' : Nat) (x : Ev) (L : Nat → Bool) (W : World) : Prop where
  below : Below w2.heap.size w2 W
  row : W.heap[gy]? = some (.cells x.cells.toArray 26 (0, 0))
  size : wy.heap.size ≤ W.heap.size
  rd : Rd W b r xs (if L 1 = true then k' else k) 0
theorem RdB.other {w2 wy W : World} {b gy : Nat} {r : Option Nat} {xs : List UInt8} {k k' : Nat} {x : Ev} {L : Nat → Bool} {i : Nat} (h : RdB w2 wy b gy r xs k k' x L W) (hi : 1 ≠ i) : RdB w2 wy b gy r xs k k' x (upd L i true) W :=
  ⟨h.below, h.row, h.size, by rw [upd_ne _ _ hi]; exact h.rd⟩
theorem RdB.later {w2 wy W W' : World} {b gy : Nat} {r : Option Nat} {xs : List UInt8} {k k' : Nat} {x : Ev} {L : Nat → Bool} (h : RdB w2 wy b gy r xs k k' x L W) (hb : Below W.heap.size W W') : RdB w2 wy b gy r xs k k' x L W' :=
  ⟨h.below.trans (hb.mono h.below.size), (hb.block gy (lt_of_rowK h.row)).trans h.row, Nat.le_trans h.size hb.size, h.rd.below (B := 0) hb⟩
structure RdF (wC wD : World) (f : Nat) (r : Option Nat) (ms : List UInt8) (k' : Nat) (e' : Int) (L : Nat → Bool) (W : World) : Prop where
  below : Below wC.heap.size wC W
  size : wD.heap.size ≤ W.heap.size
  rd : Rd W f r ms (if L 2 = true then k' else 0) (if L 2 = true then e' else 0)
  o4 : L 4 = true → L 3 = true
  o3 : L 3 = true → L 2 = true
theorem RdF.other {wC wD W : World} {f : Nat} {r : Option Nat} {ms : List UInt8} {k' : Nat} {e' : Int} {L : Nat → Bool} {i : Nat} (h : RdF wC wD f r ms k' e' L W) (hi : 2 ≠ i) (h3 : 3 = i → L 2 = true) (h4 : 4 = i → L 3 = true) : RdF wC wD f r ms k' e' (upd L i true) W := by
  refine ⟨h.below, h.size, by rw [upd_ne _ _ hi]; exact h.rd, fun q => ?_, fun q => ?_⟩
  · by_cases e3 : 3 = i
    · rw [← e3, upd_self]
    · rw [upd_ne _ _ e3]
      by_cases e4 : 4 = i
      · exact h4 e4
      · rw [upd_ne _ _ e4] at q; exact h.o4 q
  · rw [upd_ne _ _ hi]
    by_cases e3 : 3 = i
    · exact h3 e3
    · rw [upd_ne _ _ e3] at q; exact h.o3 q
theorem RdF.later {wC wD W W' : World} {f : Nat} {r : Option Nat} {ms : List UInt8} {k' : Nat} {e' : Int} {L : Nat → Bool} (h : RdF wC wD f r ms k' e' L W) (hb : Below W.heap.size W W') : RdF wC wD f r ms k' e' L W' :=
  ⟨h.below.trans (hb.mono h.below.size), Nat.le_trans h.size hb.size, h.rd.below (B := 0) hb, h.o4, h.o3⟩
set_option maxHeartbeats 16000000 in
set_option maxRecDepth 100000 in
theorem ewrites_any (ao : Option Addr) (c : Nat) (l : List Ev) (a2 : Option Addr) (c2 : Nat) (ms : List UInt8) (w : World) (hv : EL w.heap.size w ao l) (hS : Sl w (.slice a2 ms.length c2) ms) (hg : EB w.heap.size w) :
    Calls Tryz.prog 11 #[.slice ao l.length c, .slice a2 ms.length c2] w fun e w' => e = .returned (.bool true) ∧ Below w.heap.size w w' := by
  have CH := Lib.hid (tells_any w hg)
  have HV := Lib.hid hv
  have HS := Lib.hid hS
  have G := Lib.hid hg
  clear hv hg hS
  go_enter Tryz.func11, Tryz.ntmps11
  go_wp2_with fail
  refine CH.out.mono ?_
  rintro e w1 ⟨rfl, hb1⟩
  have HB1 := Lib.hid hb1
  clear hb1 CH
  by_cases h12 : (12 : Int) < (l.length : Int)
  · go_wp2_with fail
    go_ret
    exact ⟨rfl, HB1.out⟩
  by_cases h20 : (20 : Int) < (ms.length : Int)
  · go_wp2_with fail
    go_ret
    exact ⟨rfl, HB1.out⟩
  have CS := Lib.hid (esmall_any ao c l w.heap.size w1 (HV.out.below HB1.out) HB1.out.size)
  go_wp2_with fail
  refine CS.out.mono ?_
  rintro e w2 ⟨⟨b, rfl⟩, hb2⟩
  have HB2 := Lib.hid (HB1.out.trans (hb2.mono HB1.out.size))
  clear hb2 CS
  cases b
  · go_wp2_with fail
    go_ret
    exact ⟨rfl, HB2.out⟩
  have HV2 := Lib.hid (HV.out.below HB2.out)
  have hN2 : w.heap.size ≤ w2.heap.size := HB2.out.size
  obtain ⟨w3, hw3⟩ : ∃ w3, w3 = w2.alloc (.cells #[.slice none 0 0] 56) := ⟨_, rfl⟩
  obtain ⟨q, hq⟩ : ∃ q, q = w2.heap.size := ⟨_, rfl⟩
  have W3 := Lib.hid (show Wr w3 q none [] by rw [hw3, hq]; exact Wr.new w2)
  have B3 := Lib.hid (show Below w2.heap.size w2 w3 by rw [hw3]; exact (Below.refl _ _).alloc (Nat.le_refl _) _)
  have HW3 := Lib.hid hw3
  have HQ := Lib.hid hq
  have hq2 : w2.heap.size ≤ q := by omega
  clear hw3 hq
  go_upto_region 6 with fail
  rw [← HW3.out, ← HQ.out]
  go_wp2_with fail
  go_loopw [6, 31] (fun sv i wr => ewR w2 q l sv i wr) (fun sv i _ => l.length - (intOf i).toNat)
  case atStart => exact ⟨0, none, _, rfl, rfl, by simp [ebs, str_nil], Nat.zero_le _, (fun x hx => by simp at hx), by simpa [ebs] using W3.out, (fun g h => by cases h), B3.out⟩
  case round =>
    obtain ⟨wq, rfl⟩ : ∃ wq : World, wq = wr := ⟨_, rfl⟩
    obtain ⟨j, r, S, rfl, rfl, hSe, hj, hgood, hWr, hr, hbq⟩ := hrel
    have q0 : (0 : Int) ≤ (j : Int) := by omega
    have HBQ := Lib.hid hbq
    have HWR := Lib.hid hWr
    have HGD := Lib.hid hgood
    have HRR := Lib.hid hr
    have HSE := Lib.hid hSe
    have hsh := ebs_short hgood
    have hlt : (l.take j).length ≤ 12 := by rw [List.length_take]; omega
    have HVL := Lib.hid (show (ebs (l.take j)).length ≤ 9600 by omega)
    have FQ := Lib.hid (fun (W : World) (h : Below wq.heap.size wq W) => HBQ.out.trans (h.mono HBQ.out.size))
    clear hgood hWr hr hbq hsh hlt hSe
    by_cases hjl : j < l.length
    · have q1 : (j : Int) < (l.length : Int) := by omega
      obtain ⟨x, hx⟩ : ∃ x, l[j]? = some x := ⟨_, List.getElem?_eq_getElem hjl⟩
      obtain ⟨hxv, ad, rfl, had, hxc⟩ := HV2.out.elem hx
      have nb : ∀ k, k < w.heap.size → wq.heap[k]? = w2.heap[k]? := fun k hk => HBQ.out.block k (by omega)
      have KX := Lib.hid (hxc wq nb)
      have HX := Lib.hid hx
      have HXN := Lib.hid (fun (W : World) (h : Below wq.heap.size wq W) => (hxv.keep nb).below (h.mono (Nat.le_trans hN2 HBQ.out.size)))
      have hxq : x.At wq.heap.size wq := (hxv.keep nb).mono (Nat.le_trans hN2 HBQ.out.size)
      obtain ⟨w5, hw5⟩ : ∃ bx, bx = wq.alloc (.cells x.cells.toArray 26) := ⟨_, rfl⟩
      obtain ⟨g5, hg5⟩ : ∃ bx, bx = wq.heap.size := ⟨_, rfl⟩
      have bw5 : Below wq.heap.size wq w5 := by rw [hw5]; exact (Below.refl _ _).alloc (Nat.le_refl _) _
      have nw5 : w5.heap[g5]? = some (.cells x.cells.toArray 26 (0, 0)) := by rw [hw5, hg5]; exact heap_alloc_new _ _
      have Kw5 := Lib.hid (rowE nw5)
      have Cw5 := Lib.hid (evC nw5)
      have Hw5 := Lib.hid hw5
      have Hg5 := Lib.hid hg5
      have Bw5 := Lib.hid bw5
      have Nw5 := Lib.hid nw5
      clear hw5 hg5 bw5 nw5
      have HX5 := Lib.hid ((hxq.below Bw5.out).mono Bw5.out.size)
      have W5 := Lib.hid (HWR.out.later Bw5.out)
      have HLT := Lib.hid (show q < wq.heap.size ∧ (∀ g, r = some g → g < wq.heap.size) from ⟨HWR.out.lt, HWR.out.rlt⟩)
      obtain ⟨E, hE⟩ : ∃ E, E = x.vE := ⟨_, rfl⟩
      have CK := rcheckE_any x w5.heap.size w5 HX5.out (Nat.le_refl _)
      rw [← hE] at CK
      have HCK := Lib.hid CK
      have HE := Lib.hid hE
      clear hxv hxc had hx nb hxq CK hE
      go_wp2_with (first
        | (with_reducible show wpList _ _ _ _ _ _; refine wpList_load_allW rfl 26 (.tmp 33) rfl _ rfl x.cells _ KX.out Tryz.underlying26 rfl (Tryz.evSize x) ?_)
        | (with_reducible show wpList _ _ _ _ _ _; refine wpList_store_newW rfl 26 (.tmp 8) (.tmp 34) rfl 26 _ x.cells.toArray rfl rfl (Tryz.evSize' x) (by with_unfolding_all exact Ev.eleven x) x.cells_one ?_; rw [← Hw5.out, ← Hg5.out])
        | (with_reducible show wpList _ _ _ _ _ _; refine wpList_load_allW rfl 26 (.tmp 8) rfl ⟨g5,0,none⟩ rfl x.cells _ Kw5.out Tryz.underlying26 rfl (Tryz.evSize x) ?_))
      refine HCK.out.mono ?_
      rintro e w6 ⟨rfl, hb6⟩
      have HB6 := Lib.hid (Bw5.out.trans (hb6.mono Bw5.out.size))
      have K6 := Lib.hid (rowEB (x := x) Nw5.out hb6)
      have K6row := Lib.hid ((hb6.block g5 (lt_of_rowK Nw5.out)).trans Nw5.out)
      have W6 := Lib.hid (W5.out.later hb6)
      clear hb6 HCK
      by_cases he : E = 0
      · subst he
        have hvE := HE.out.symm
        have hs6 := HB6.out.size
        have hsq := HBQ.out.size
        have B06 := HB2.out.trans ((FQ.out w6 HB6.out).mono hN2)
        have WW := Lib.hid (ewrite_any x w.heap.size q r (ebs (l.take j)) w6 (HXN.out w6 HB6.out) hvE (by omega) (by omega) (fun g hg => by have := HRR.out g hg; omega) W6.out (by have := HVL.out; omega) (G.out.on B06))
        clear B06 hvE hs6 hsq
        go_wp2_with (first
          | (with_reducible show wpList _ _ _ _ _ _; refine wpList_load_allW rfl 26 (.tmp 8) rfl ⟨g5,0,none⟩ rfl x.cells _ K6.out Tryz.underlying26 rfl (Tryz.evSize x) ?_))
        refine WW.out.mono ?_
        rintro e w7 ⟨rfl, r7, hWr7, hF7, hr7⟩
        have b27 : Below w2.heap.size w2 w7 := fr_new (FQ.out w6 HB6.out) (Nat.le_trans HBQ.out.size HB6.out.size) hF7 hq2 HRR.out
        have h57 : w7.heap[g5]? = some (.cells x.cells.toArray 26 (0, 0)) := by
          have hl := HLT.out
          have hG5 := Hg5.out
          have h56 : w6.heap[g5]? = some (.cells x.cells.toArray 26 (0, 0)) := K6row.out
          exact (hF7.block g5 (lt_of_rowK h56) (by omega) (fun e => by have := hl.2 g5 e.symm; omega)).trans h56
        have K7 := Lib.hid (rowE (x := x) h57)
        have X7 := Lib.hid (show x.At w.heap.size w7 from by
          have h := HXN.out wq (Below.refl _ _)
          exact h.keep fun k hk => (b27.block k (by omega)).trans (HBQ.out.block k (by omega)).symm)
        obtain ⟨XB, hXB⟩ : ∃ XB, XB = str x.eb := ⟨_, rfl⟩
        have CB := Lib.hid (show Calls Tryz.prog 18 #[.agg x.cells.toArray] w7 fun e w' => e = .returned (.string XB) ∧ Below w7.heap.size w7 w' from by
          rw [hXB]; exact rbytesE_any x w.heap.size w7 X7.out HE.out.symm (by have := b27.size; omega))
        have R7 := Lib.hid (fun (W : World) (h : Below w7.heap.size w7 W) => show ewR w2 q l (.string (S ++ XB)) (.int .i64 ((j + 1 : Nat) : Int)) W from by
          refine ⟨j + 1, r7, _, rfl, rfl, ?_, hjl, ?_, ?_, ?_, b27.trans (h.mono b27.size)⟩
          · rw [HSE.out, hXB, str_app2, ebs_take HX.out]
          · exact take_vE2 HX.out HGD.out HE.out.symm
          · rw [ebs_take HX.out]; exact hWr7.later h
          · intro g hg
            rcases hr7 with rfl | ⟨g', e, h2⟩
            · exact HRR.out g hg
            · rw [hg] at e
              injection e with e
              have := HB6.out.size
              have := HBQ.out.size
              omega)
        have hXs : XB.size ≤ 800 := by rw [hXB, str_sizeX]; exact eb_len HE.out.symm
        have hSs : S.size ≤ 9600 := by rw [HSE.out, str_sizeX]; exact HVL.out
        clear hWr7 hF7 hr7 h57 hXB WW b27 HRR HXN X7
        go_wp2_with (first
          | (with_reducible show wpList _ _ _ _ _ _; refine wpList_load_allW rfl 26 (.tmp 8) rfl ⟨g5,0,none⟩ rfl x.cells _ K7.out Tryz.underlying26 rfl (Tryz.evSize x) ?_))
        refine CB.out.mono ?_
        rintro e w8 ⟨rfl, hb8⟩
        have R8 := Lib.hid (R7.out w8 hb8)
        clear hb8
        go_wp2_with fail
        exact ⟨R8.out, by simp [intOf]; omega⟩
      · have he2 : (E != 0) = true := by simpa using he
        have RL := Lib.hid (HB2.out.trans ((FQ.out w6 HB6.out).mono hN2))
        go_wp2_with fail
        go_ret
        exact ⟨rfl, RL.out⟩
    · have q1 : ¬ (j : Int) < (l.length : Int) := by omega
      have hjn : j = l.length := by omega
      have htl : l.take j = l := List.take_of_length_le (by omega)
      obtain ⟨m, hm⟩ : ∃ m, m = (ebs l).length := ⟨_, rfl⟩
      have hm9 : m ≤ 9600 := by have h := HVL.out; rw [htl] at h; omega
      have hW := HWR.out
      rw [htl] at hW
      have BY := fun (W : World) (h : Below wq.heap.size wq W) => bytes_any (hW.later h) (by omega)
      rw [← hm] at BY
      have HBY := Lib.hid BY
      have HBY0 := Lib.hid (BY wq (Below.refl _ _))
      have HGL := Lib.hid (show ∀ x ∈ l, x.vE = 0 by have h := HGD.out; rw [htl] at h; exact h)
      have HSL := Lib.hid (show S = str (ebs l) by rw [HSE.out, htl])
      have HM := Lib.hid hm
      clear BY htl HWR HGD hjn hW hm HSE HVL
      go_wp2_with fail
      refine HBY0.out.mono ?_
      rintro e w7 ⟨ao7, c7, rfl, own7, hb7⟩
      have hcv := own_conv own7 HM.out.symm
      rw [← HSL.out] at hcv
      have hsn : (S.toList != S.toList) = false := by simp
      have HB7 := Lib.hid hb7
      clear own7 hb7
      have B27 := Lib.hid (FQ.out w7 HB7.out)
      have BY7 := Lib.hid (HBY.out w7 HB7.out)
      go_wp2_with fail
      refine BY7.out.mono ?_
      rintro e w8 ⟨ao8, c8, rfl, own8, hb8⟩
      have B28 := Lib.hid (B27.out.trans (hb8.mono B27.out.size))
      have OWp := Lib.hid own8
      have B08 := Lib.hid (HB2.out.trans (B28.out.mono hN2))
      have HS8 := Lib.hid (Sl.below HS.out B08.out)
      have SRp := Lib.hid (src_Sl HS8.out rfl)
      have BSp := Lib.hid hb8.size
      have LMp := Lib.hid (show m + ms.length ≤ 140737488355328 by omega)
      clear own8 hb8 BY7 hcv
      go_wp2_with (first
        | (with_reducible show wpList _ _ _ _ _ _; refine wpList_apS (by with_unfolding_all rfl) (.tmp 49) (.tmp 50) (by with_unfolding_all rfl) w7.heap.size ao8 c8 (ebs l) m (by with_unfolding_all rfl) OWp.out BSp.out ms ms.length (.slice a2 ms.length c2) (by with_unfolding_all rfl) SRp.out LMp.out ?_; intro ap cp wp oap bap _; have OAp := Lib.hid oap; have BAp := Lib.hid bap; clear oap bap))
      have hxl : (ebs l ++ ms).length = m + ms.length := by rw [List.length_append, ← HM.out]
      have RS := read_sl (own_Sl OAp.out hxl) (by rw [hxl]; omega)
      rw [hxl] at RS
      have HRS := Lib.hid RS
      have HXL := Lib.hid hxl
      have B2p := Lib.hid (B28.out.trans (BAp.out.mono B27.out.size))
      clear RS hxl OAp BAp SRp OWp
      refine HRS.out.mono ?_
      rintro e w9 ⟨b, r2, rfl, hR9, hb9, hbl, hrl9⟩
      have B29 := Lib.hid (B2p.out.trans (hb9.mono B2p.out.size))
      have R9 := Lib.hid hR9
      have HBL := Lib.hid (Nat.le_trans B2p.out.size hbl)
      have HRL := Lib.hid (fun g (hg : r2 = some g) => Nat.le_trans B2p.out.size (hrl9 g hg))
      clear hR9 hb9 hbl hrl9 HRS
      obtain ⟨jo, rfl⟩ : ∃ jo : Nat, jo = j := ⟨_, rfl⟩
      go_wp2_with fail
      go_loopw [55] (fun i wr => erdR w2 b r2 l ms i wr) (fun i _ => l.length - (intOf i).toNat)
      case atStart => exact ⟨0, rfl, Nat.zero_le _, by simpa [ebs] using R9.out, B29.out⟩
      case round =>
        obtain ⟨wz, rfl⟩ : ∃ wz : World, wz = wr := ⟨_, rfl⟩
        obtain ⟨j, rfl, hj, hRd, hbz⟩ := hrel
        have q0 : (0 : Int) ≤ (j : Int) := by omega
        have HBZ := Lib.hid hbz
        have HRD := Lib.hid hRd
        clear hRd hbz
        by_cases hjl : j < l.length
        · have q1 : (j : Int) < (l.length : Int) := by omega
          obtain ⟨x, hx⟩ : ∃ x, l[j]? = some x := ⟨_, List.getElem?_eq_getElem hjl⟩
          obtain ⟨hxv, ad, rfl, had, hxc⟩ := HV2.out.elem hx
          have nb : ∀ k, k < w.heap.size → wz.heap[k]? = w2.heap[k]? := fun k hk => HBZ.out.block k (by omega)
          have KX := Lib.hid (hxc wz nb)
          have HXV := Lib.hid hxv
          have HX := Lib.hid hx
          have hsz2 := HBZ.out.size
          have hxq : x.At wz.heap.size wz := (hxv.keep nb).mono (by omega)
          obtain ⟨wy, hwy⟩ : ∃ bx, bx = wz.alloc (.cells x.cells.toArray 26) := ⟨_, rfl⟩
          obtain ⟨gy, hgy⟩ : ∃ bx, bx = wz.heap.size := ⟨_, rfl⟩
          have bwy : Below wz.heap.size wz wy := by rw [hwy]; exact (Below.refl _ _).alloc (Nat.le_refl _) _
          have nwy : wy.heap[gy]? = some (.cells x.cells.toArray 26 (0, 0)) := by rw [hwy, hgy]; exact heap_alloc_new _ _
          have Kwy := Lib.hid (rowE nwy)
          have Cwy := Lib.hid (evC nwy)
          have Hwy := Lib.hid hwy
          have Hgy := Lib.hid hgy
          have Bwy := Lib.hid bwy
          have Nwy := Lib.hid nwy
          clear hwy hgy bwy nwy
          have HX7 := Lib.hid ((hxq.below Bwy.out).mono Bwy.out.size)
          have R7 := Lib.hid (HRD.out.below (B := 0) Bwy.out)
          have HVE := Lib.hid (HGL.out x (List.mem_of_getElem? hx))
          have HF := Lib.hid (fine (Ev.fits HVE.out).val.1)
          have HNX := Lib.hid (show x.Num from ⟨HX7.out.a.2, HX7.out.b.2, HX7.out.val.num⟩)
          have B27z := Lib.hid (HBZ.out.trans (Bwy.out.mono HBZ.out.size))
          have LT7 := Lib.hid (show b < wy.heap.size ∧ (∀ g, r2 = some g → g < wy.heap.size) from ⟨R7.out.lt, R7.out.rlt⟩)
          have HGB := Lib.hid (show gy ≠ b by have h1 := HRD.out.lt; have h2 := Hgy.out; omega)
          clear hxv had hxc hx nb hxq hsz2
          go_upto_region 21 with (first
            | (with_reducible show wpList _ _ _ _ _ _; refine wpList_load_allW rfl 26 (.tmp 57) rfl _ rfl x.cells _ KX.out Tryz.underlying26 rfl (Tryz.evSize x) ?_)
            | (with_reducible show wpList _ _ _ _ _ _; refine wpList_store_newW rfl 26 (.tmp 11) (.tmp 58) rfl 26 _ x.cells.toArray rfl rfl (Tryz.evSize' x) (by with_unfolding_all exact Ev.eleven x) x.cells_one ?_; rw [← Hwy.out, ← Hgy.out]))
          have P0 := Lib.hid (show RdB w2 wy b gy r2 (ebs l ++ ms) (ebs (l.take j)).length ((ebs (l.take j)).length + x.eb.length) x (fun _ => false) wy from by
            exact ⟨B27z.out, Nwy.out, Nat.le_refl _, R7.out⟩)
          have RDE := Lib.hid (fun (W : World) (hB : Below w2.heap.size w2 W) (hR : Rd W b r2 (ebs l ++ ms) (ebs (l.take j)).length 0) => show Calls Tryz.prog 36 #[.pointer (some ⟨b, 0, none⟩)] W (RdePost W b r2 (ebs l ++ ms) (x.nz, (ebs (l.take j)).length + x.eb.length, 0)) from by
            have h := eread_any (N := w.heap.size) hR (by rw [HXL.out]; omega) (G.out.on (HB2.out.trans (hB.mono hN2))) (by have := HBL.out; omega)
            rwa [evR_fwd HNX.out HVE.out (ebs_drop HX.out ms)] at h)
          have SME := Lib.hid (fun (U : Ev) (W : World) (hB : Below w2.heap.size w2 W) (hUz : U.nz = x.nz) (hUa : U.At W.heap.size W) => show Calls Tryz.prog 19 #[.agg U.cells.toArray, .agg x.cells.toArray] W fun e w' => e = .returned (.bool true) ∧ Below W.heap.size W w' from by
            have ev : U.val.nz = x.val.nz := congrArg Ev.val hUz
            have hx2 : x.At W.heap.size W := (HXV.out.keep fun k hk => hB.block k (by omega)).mono (by have := hB.size; omega)
            have h := esame_any U x (by rw [← nz_dpr, ev, nz_dpr]; exact HF.out.dpr) W.heap.size W hUa hx2 (Nat.le_refl _)
            rwa [(Ev.same_nz (by rw [← nz_kin, ev, nz_kin]; exact HF.out.kin)).2 hUz] at h)
          refine wp_region_slotsG (by kernel_rfl) (by kernel_rfl)
            (fun y' => ⟨#[Value.slice (some ad) l.length c, Value.slice a2 ms.length c2, undef, undef, u4, Value.pointer (some { block := q, off := 0 }), Value.string S, undef, u8, Value.pointer (some { block := b, off := 0 }), undef, Value.pointer (some { block := gy, off := 0 }), undef, undef, Value.bool true, Value.bool false, Value.slice (some ad) l.length c, Value.int IntKind.i64 ↑l.length, Value.bool (decide ((12 : Int) < (l.length : Int))), Value.bool (decide ((12 : Int) < (l.length : Int))), Value.slice a2 ms.length c2, Value.int IntKind.i64 ↑ms.length, Value.bool (decide ((20 : Int) < (ms.length : Int))), Value.bool (decide ((12 : Int) < (l.length : Int)) || decide ((20 : Int) < (ms.length : Int))), Value.bool (decide ((12 : Int) < (l.length : Int)) || decide ((20 : Int) < (ms.length : Int))), Value.slice (some ad) l.length c, Value.bool true, Value.bool false, Value.bool (decide ((12 : Int) < (l.length : Int)) || decide ((20 : Int) < (ms.length : Int))), Value.slice (some ad) l.length c, Value.int IntKind.i64 ↑l.length, Value.int IntKind.i64 ↑jo, Value.bool false, u33, u34, u35, u36, u37, u38, u39, u40, u41, u42, u43, u44, Value.slice ao7 m c7, Value.string S, Value.string S, Value.bool false, Value.slice ao8 m c8, Value.slice a2 ms.length c2, Value.slice ap (m + ms.length) cp, Value.pointer (some { block := b, off := 0 }), Value.slice (some ad) l.length c, Value.int IntKind.i64 ↑l.length, Value.int IntKind.i64 ↑j, Value.bool true, Value.pointer (some (ad.add (j * 11))), Value.agg x.cells.toArray, y' 0, y' 1, y' 2, y' 3, y' 4, u64, undef, undef, undef, undef, undef, undef, undef, undef, undef, undef, undef, undef, undef, undef, undef, undef, undef, undef, undef, undef, undef, undef, undef, undef, undef], []⟩)
            (fun j' q W => match j' with | 0 => q = .pointer (some ⟨b, 0, none⟩) | 1 => UofX x wy b q W | 2 => q = .agg x.cells.toArray | 3 => q = .bool true | 4 => q = .bool false | _ => True)
            (fun L W => RdB w2 wy b gy r2 (ebs l ++ ms) (ebs (l.take j)).length ((ebs (l.take j)).length + x.eb.length) x L W) (KpB b) ?_ ?_ ?_ (fun j' => match j' with | 0 => u59 | 1 => u60 | 2 => u61 | 3 => u62 | 4 => u63 | _ => undef) rfl (P0.out.later (below_drewG (Below.refl _ _) 1))
          · intro j' q W W' hr hf
            match j', hf with
            | 0, h => exact h
            | 1, h => exact UofX.keep h hr
            | 2, h => exact h
            | 3, h => exact h
            | 4, h => exact h
            | k + 5, _ => trivial
          · intro i' o ho L Y' wx hd hi' hx hs
            match i', ho with
            | 0, ho =>
              obtain rfl := Option.some.inj ho
              refine .inl ⟨rfl, ?_⟩
              exact slot_run (v := .pointer (some ⟨b, 0, none⟩)) (w' := wx) rfl ⟨_, rfl, KpB.refl _ _, rfl, hs.other (by decide)⟩
            | 1, ho =>
              obtain rfl := Option.some.inj ho
              refine .inl ⟨rfl, ?_⟩
              have y0 : Y' 0 = .pointer (some ⟨b, 0, none⟩) := hx 0 (hd ⟨0, .data⟩ (by simp) rfl)
              refine slot_call #[.pointer (some ⟨b, 0, none⟩)] rfl Tryz.func36 (by kernel_rfl) (by kernel_rfl) (by simp [Act.eval, y0]) ?_
              have hR := hs.rd
              rw [if_neg (by rw [hi']; simp)] at hR
              refine (RDE.out wx hs.below hR).mono ?_
              rintro e w' ⟨U, rfl, hUz, hUa, hUi, hR', hF⟩
              dsimp only at hUz hR'
              refine ⟨_, rfl, _, rfl, ⟨hF.size, fun k hk hne => hF.block k hk hne (by simp)⟩, ⟨U, rfl, hUz, hUa, hUi.imp fun k hk => Nat.le_trans hs.size hk, LT7.out.1⟩, ?_⟩
              refine ⟨fr_new hs.below hs.below.size hF HBL.out (fun g hg => by cases hg), (hF.block gy (lt_of_rowK hs.row) HGB.out (by simp)).trans hs.row, Nat.le_trans hs.size hF.size, ?_⟩
              rw [upd_self, if_pos rfl]
              exact hR'
            | 2, ho =>
              obtain rfl := Option.some.inj ho
              refine .inl ⟨rfl, ?_⟩
              exact slot_loadK 26 (.tmp 11) rfl ⟨gy, 0, none⟩ rfl x.cells _ (rowE hs.row) Tryz.underlying26 rfl (Tryz.evSize x) ⟨_, rfl, KpB.refl _ _, rfl, hs.other (by decide)⟩
            | 3, ho =>
              obtain rfl := Option.some.inj ho
              refine .inl ⟨rfl, ?_⟩
              have y1 : UofX x wy b (Y' 1) wx := hx 1 (hd ⟨1, .data⟩ (by simp) rfl)
              have y2 : Y' 2 = .agg x.cells.toArray := hx 2 (hd ⟨2, .data⟩ (by simp) rfl)
              obtain ⟨U, hU, hUz, hUa, hUi, _⟩ := y1
              refine slot_call #[.agg U.cells.toArray, .agg x.cells.toArray] rfl Tryz.func19 (by kernel_rfl) (by kernel_rfl) (by simp [Act.eval, hU, y2]) ?_
              refine (SME.out U wx hs.below hUz hUa).mono ?_
              rintro e w' ⟨rfl, hb⟩
              exact ⟨_, rfl, _, rfl, KpB.of hb, rfl, (hs.later hb).other (by decide)⟩
            | 4, ho =>
              obtain rfl := Option.some.inj ho
              refine .inl ⟨rfl, ?_⟩
              have y3 : Y' 3 = .bool true := hx 3 (hd ⟨3, .data⟩ (by simp) rfl)
              refine slot_run (v := .bool false) (w' := wx) ?_ ⟨_, rfl, KpB.refl _ _, rfl, hs.other (by decide)⟩
              refine runWithK (fun z' => match z' with | .tmp 62 => Y' 3 | .const c => c | _ => undef) (by kernel_rfl) ?_
              rw [y3]
              go_simp
            | k + 5, ho => simp at ho
          · intro L Y' wx hall hx hs
            have yz : Y' 4 = .bool false := hx 4 (hall 4 (by decide))
            rw [yz]
            have RL := Lib.hid (show erdR w2 b r2 l ms (.int .i64 ((j + 1 : Nat) : Int)) wx from ⟨j + 1, rfl, hjl, by
              have h := hs.rd
              rw [if_pos (hall 1 (by decide))] at h
              rw [ebs_take HX.out, List.length_append]
              exact h, hs.below⟩)
            clear hx hall hs
            go_wp2_with fail
            exact ⟨RL.out, by simp [intOf]; omega⟩
        · have q1 : ¬ (j : Int) < (l.length : Int) := by omega
          have htl : l.take j = l := List.take_of_length_le (by omega)
          have hRd := HRD.out
          rw [htl] at hRd
          have hxl := HXL.out
          obtain ⟨X, hX⟩ : ∃ X, X = evR ms 0 0 := ⟨_, rfl⟩
          have HXF := Lib.hid (show Fine X.1.val by rw [hX]; exact evR_fine ms 0 0)
          have HX := Lib.hid hX
          have HR := Lib.hid hRd
          have ERR := Lib.hid (err_any hRd)
          have LF := left_any hRd (by rw [hxl]; omega)
          rw [show rl (ebs l ++ ms) (ebs l).length 0 = ms.length by unfold rl; rw [if_pos rfl, List.length_append]; omega] at LF
          have LFT := Lib.hid LF
          have hne : ((ms.length : Int) != (ms.length : Int)) = false := by simp
          clear htl hRd hX LF HRD hxl
          obtain ⟨jp, rfl⟩ : ∃ jp : Nat, jp = j := ⟨_, rfl⟩
          go_wp2_with fail
          refine ERR.out.mono ?_
          rintro e wA0 ⟨rfl, hA0⟩
          subst hA0
          go_wp2_with fail
          refine LFT.out.mono ?_
          rintro e wA ⟨rfl, nd, hA⟩
          have BA := Lib.hid (show Below wz.heap.size wz wA by rw [hA]; exact below_drewG (Below.refl _ _) nd)
          have B2A := Lib.hid (HBZ.out.trans (BA.out.mono HBZ.out.size))
          have CA := eread_any (N := w.heap.size) (HR.out.below (B := 0) BA.out) (by rw [HXL.out]; omega) (G.out.on (HB2.out.trans (B2A.out.mono hN2))) (by have := HBL.out; omega)
          rw [show evR (ebs l ++ ms) (ebs l).length 0 = sh (ebs l).length X from by rw [HX.out]; exact evR_sh (ebs l) ms 0 0] at CA
          have HCA := Lib.hid CA
          clear hA CA ERR LFT
          go_wp2_with fail
          refine HCA.out.mono ?_
          rintro e wB ⟨U, rfl, hUz, hUa, hUi, hRB, hFB⟩
          have hUz' : U.nz = X.1 := hUz
          have hRB' : Rd wB b r2 (ebs l ++ ms) ((ebs l).length + X.2.1) X.2.2 := hRB
          obtain ⟨wC, hwC⟩ : ∃ bx, bx = wB.alloc (.cells U.cells.toArray 26) := ⟨_, rfl⟩
          obtain ⟨gU, hgU⟩ : ∃ bx, bx = wB.heap.size := ⟨_, rfl⟩
          have bwC : Below wB.heap.size wB wC := by rw [hwC]; exact (Below.refl _ _).alloc (Nat.le_refl _) _
          have nwC : wC.heap[gU]? = some (.cells U.cells.toArray 26 (0, 0)) := by rw [hwC, hgU]; exact heap_alloc_new _ _
          have KwC := Lib.hid (rowE nwC)
          have CwC := Lib.hid (evC nwC)
          have HwC := Lib.hid hwC
          have HgU := Lib.hid hgU
          have BwC := Lib.hid bwC
          have NwC := Lib.hid nwC
          clear hwC hgU bwC nwC
          have B2B := Lib.hid (fr_new B2A.out B2A.out.size hFB HBL.out (fun g hg => by cases hg))
          have B2C := Lib.hid (B2B.out.trans (BwC.out.mono B2B.out.size))
          have RBC := Lib.hid (hRB'.below (B := 0) BwC.out)
          have HUZ := Lib.hid hUz'
          have HUA := Lib.hid ((hUa.below BwC.out).mono BwC.out.size)
          have RS := Lib.hid (read_sl (Sl.below HS.out (HB2.out.trans (B2C.out.mono hN2))) (by omega))
          clear hUz hUz' hUa hUi hRB hRB' hFB HCA
          go_wp2_with (first
            | (with_reducible show wpList _ _ _ _ _ _; refine wpList_store_newW rfl 26 (.tmp 12) (.tmp 76) rfl 26 _ U.cells.toArray rfl rfl (Tryz.evSize' U) (by with_unfolding_all exact Ev.eleven U) U.cells_one ?_; rw [← HwC.out, ← HgU.out]))
          refine RS.out.mono ?_
          rintro e wD ⟨f, rf, rfl, hRf, hbD, hfl, hrf⟩
          have BCD := Lib.hid hbD
          have HRF := Lib.hid hRf
          have HFL := Lib.hid hfl
          have B2D := Lib.hid (B2C.out.trans (hbD.mono B2C.out.size))
          have LTF := Lib.hid (show f < wD.heap.size from hRf.lt)
          have P0 := Lib.hid (show RdF wC wD f rf ms X.2.1 X.2.2 (fun _ => false) wD from ⟨hbD, Nat.le_refl _, hRf, (fun h => by cases h), (fun h => by cases h)⟩)
          have RDE := Lib.hid (fun (W : World) (hB : Below wC.heap.size wC W) (hR : Rd W f rf ms 0 0) => show Calls Tryz.prog 36 #[.pointer (some ⟨f, 0, none⟩)] W (RdePost W f rf ms X) from by
            have h := eread_any (N := w.heap.size) hR (by omega) (G.out.on (HB2.out.trans ((B2C.out.trans (hB.mono B2C.out.size)).mono hN2))) (by have := HFL.out; have := B2C.out.size; omega)
            rwa [← HX.out] at h)
          have SME := Lib.hid (fun (V : Ev) (W : World) (hB : Below wC.heap.size wC W) (hVz : V.nz = U.nz) (hVa : V.At W.heap.size W) => show Calls Tryz.prog 19 #[.agg U.cells.toArray, .agg V.cells.toArray] W fun e w' => e = .returned (.bool true) ∧ Below W.heap.size W w' from by
            have eu : U.val.nz = X.1.val := congrArg Ev.val HUZ.out
            have hkin : U.val.Kin := by
              rw [← nz_kin, eu]; exact HXF.out.kin
            have hdpr : U.val.dpr 65536 = false := by
              rw [← nz_dpr, eu]; exact HXF.out.dpr
            have h := esame_any U V hdpr W.heap.size W ((HUA.out.below hB).mono hB.size) hVa (Nat.le_refl _)
            rwa [(Ev.same_nz hkin).2 hVz.symm] at h)
          clear hRf hbD hfl hrf RS
          go_upto_region 28 with fail
          refine wp_region_slotsG (by kernel_rfl) (by kernel_rfl)
            (fun y' => ⟨#[Value.slice ao l.length c, Value.slice a2 ms.length c2, undef, undef, y' 11, Value.pointer (some { block := q, off := 0 }), Value.string S, undef, u8, Value.pointer (some { block := b, off := 0 }), undef, u11, Value.pointer (some { block := gU, off := 0 }), Value.pointer (some { block := f, off := 0 }), Value.bool true, Value.bool false, Value.slice ao l.length c, Value.int IntKind.i64 ↑l.length, Value.bool (decide ((12 : Int) < (l.length : Int))), Value.bool (decide ((12 : Int) < (l.length : Int))), Value.slice a2 ms.length c2, Value.int IntKind.i64 ↑ms.length, Value.bool (decide ((20 : Int) < (ms.length : Int))), Value.bool (decide ((12 : Int) < (l.length : Int)) || decide ((20 : Int) < (ms.length : Int))), Value.bool (decide ((12 : Int) < (l.length : Int)) || decide ((20 : Int) < (ms.length : Int))), Value.slice ao l.length c, Value.bool true, Value.bool false, Value.bool (decide ((12 : Int) < (l.length : Int)) || decide ((20 : Int) < (ms.length : Int))), Value.slice ao l.length c, Value.int IntKind.i64 ↑l.length, Value.int IntKind.i64 ↑jo, Value.bool false, u33, u34, u35, u36, u37, u38, u39, u40, u41, u42, u43, u44, Value.slice ao7 m c7, Value.string S, Value.string S, Value.bool false, Value.slice ao8 m c8, Value.slice a2 ms.length c2, Value.slice ap (m + ms.length) cp, Value.pointer (some { block := b, off := 0 }), Value.slice ao l.length c, Value.int IntKind.i64 ↑l.length, Value.int IntKind.i64 ↑jp, Value.bool false, u57, u58, u59, u60, u61, u62, u63, u64, Value.pointer (some { block := b, off := 0 }), Value.int IntKind.i64 0, Value.bool false, Value.bool false, Value.pointer (some { block := b, off := 0 }), Value.int IntKind.i64 ↑ms.length, Value.slice a2 ms.length c2, Value.int IntKind.i64 ↑ms.length, Value.bool false, Value.bool false, Value.pointer (some { block := b, off := 0 }), Value.agg U.cells.toArray, Value.slice a2 ms.length c2, Value.pointer (some { block := f, off := 0 }), y' 0, y' 1, y' 2, y' 3, y' 4, y' 5, y' 6, y' 7, y' 8, y' 9, y' 10], []⟩)
            (fun j' q W => match j' with | 0 => q = .agg U.cells.toArray | 1 => q = .pointer (some ⟨f, 0, none⟩) | 2 => UofX U wD f q W | 3 => q = .bool true | 4 => q = .bool true | 5 => q = .pointer (some ⟨b, 0, none⟩) | 6 => q = .int .i64 X.2.2 | 7 => q = .pointer (some ⟨f, 0, none⟩) | 8 => q = .int .i64 X.2.2 | 9 => q = .bool true | 10 => q = .bool true | 11 => q = .bool true | _ => True)
            (fun L W => RdF wC wD f rf ms X.2.1 X.2.2 L W) (KpB f) ?_ ?_ ?_ (fun j' => match j' with | 0 => undef | 1 => undef | 2 => undef | 3 => undef | 4 => undef | 5 => undef | 6 => undef | 7 => undef | 8 => undef | 9 => undef | 10 => undef | 11 => u4 | _ => undef) rfl (P0.out.later (below_drewG (Below.refl _ _) 1))
          · intro j' q W W' hr hf
            match j', hf with
            | 0, h => exact h
            | 1, h => exact h
            | 2, h => exact UofX.keep h hr
            | 3, h => exact h
            | 4, h => exact h
            | 5, h => exact h
            | 6, h => exact h
            | 7, h => exact h
            | 8, h => exact h
            | 9, h => exact h
            | 10, h => exact h
            | 11, h => exact h
            | k + 12, _ => trivial
          · intro i' o ho L Y' wx hd hi' hx hs
            match i', ho with
            | 0, ho =>
              obtain rfl := Option.some.inj ho
              refine .inl ⟨rfl, ?_⟩
              exact slot_loadK 26 (.tmp 12) rfl ⟨gU, 0, none⟩ rfl U.cells _ (rowEB (x := U) NwC.out hs.below) Tryz.underlying26 rfl (Tryz.evSize U) ⟨_, rfl, KpB.refl _ _, rfl, hs.other (by decide) (fun h => absurd h (by decide)) (fun h => absurd h (by decide))⟩
            | 1, ho =>
              obtain rfl := Option.some.inj ho
              refine .inl ⟨rfl, ?_⟩
              exact slot_run (v := .pointer (some ⟨f, 0, none⟩)) (w' := wx) rfl ⟨_, rfl, KpB.refl _ _, rfl, hs.other (by decide) (fun h => absurd h (by decide)) (fun h => absurd h (by decide))⟩
            | 2, ho =>
              obtain rfl := Option.some.inj ho
              refine .inl ⟨rfl, ?_⟩
              have y1 : Y' 1 = .pointer (some ⟨f, 0, none⟩) := hx 1 (hd ⟨1, .data⟩ (by simp) rfl)
              refine slot_call #[.pointer (some ⟨f, 0, none⟩)] rfl Tryz.func36 (by kernel_rfl) (by kernel_rfl) (by simp [Act.eval, y1]) ?_
              have hR := hs.rd
              rw [if_neg (by rw [hi']; simp), if_neg (by rw [hi']; simp)] at hR
              refine (RDE.out wx hs.below hR).mono ?_
              rintro e w' ⟨V, rfl, hVz, hVa, hVi, hR', hF⟩
              refine ⟨_, rfl, _, rfl, ⟨hF.size, fun k hk hne => hF.block k hk hne (by simp)⟩, ⟨V, rfl, hVz.trans HUZ.out.symm, hVa, hVi.imp fun k hk => Nat.le_trans hs.size hk, LTF.out⟩, ?_⟩
              refine ⟨fr_new hs.below hs.below.size hF HFL.out (fun g hg => by cases hg), Nat.le_trans hs.size hF.size, ?_, (fun h => by rw [upd_ne _ _ (by decide)] at h ⊢; exact hs.o4 h), (fun _ => upd_self _ _ _)⟩
              rw [upd_self, if_pos rfl, if_pos rfl]
              exact hR'
            | 3, ho =>
              obtain rfl := Option.some.inj ho
              refine .inl ⟨rfl, ?_⟩
              have y0 : Y' 0 = .agg U.cells.toArray := hx 0 (hd ⟨0, .data⟩ (by simp) rfl)
              have y2 : UofX U wD f (Y' 2) wx := hx 2 (hd ⟨2, .data⟩ (by simp) rfl)
              obtain ⟨V, hV, hVz, hVa, hVi, _⟩ := y2
              refine slot_call #[.agg U.cells.toArray, .agg V.cells.toArray] rfl Tryz.func19 (by kernel_rfl) (by kernel_rfl) (by simp [Act.eval, hV, y0]) ?_
              refine (SME.out V wx hs.below hVz hVa).mono ?_
              rintro e w' ⟨rfl, hb⟩
              exact ⟨_, rfl, _, rfl, KpB.of hb, rfl, (hs.later hb).other (by decide) (fun _ => hd ⟨2, .data⟩ (by simp) rfl) (fun h => absurd h (by decide))⟩
            | 4, ho =>
              obtain rfl := Option.some.inj ho
              refine .inl ⟨rfl, ?_⟩
              have y3 : Y' 3 = .bool true := hx 3 (hd ⟨3, .data⟩ (by simp) rfl)
              refine slot_run (v := .bool true) (w' := wx) ?_ ⟨_, rfl, KpB.refl _ _, rfl, hs.other (by decide) (fun h => absurd h (by decide)) (fun _ => hd ⟨3, .data⟩ (by simp) rfl)⟩
              refine runWithK (fun z' => match z' with | .tmp 82 => Y' 3 | .const c => c | _ => undef) (by kernel_rfl) ?_
              rw [y3]
              kernel_rfl
            | 5, ho =>
              obtain rfl := Option.some.inj ho
              have yg : Y' 4 = .bool true := hx 4 (hd ⟨4, .guard⟩ (by simp) rfl)
              refine .inl ⟨Eq.trans (b := gdE (Y' 4) true) (by kernel_rfl) (by rw [yg]; rfl), ?_⟩
              exact slot_run (v := .pointer (some ⟨b, 0, none⟩)) (w' := wx) rfl ⟨_, rfl, KpB.refl _ _, rfl, hs.other (by decide) (fun h => absurd h (by decide)) (fun h => absurd h (by decide))⟩
            | 6, ho =>
              obtain rfl := Option.some.inj ho
              have yg : Y' 4 = .bool true := hx 4 (hd ⟨4, .guard⟩ (by simp) rfl)
              refine .inl ⟨Eq.trans (b := gdE (Y' 4) true) (by kernel_rfl) (by rw [yg]; rfl), ?_⟩
              have y5 : Y' 5 = .pointer (some ⟨b, 0, none⟩) := hx 5 (hd ⟨5, .data⟩ (by simp) rfl)
              refine slot_call #[.pointer (some ⟨b, 0, none⟩)] rfl Tryz.func37 (by kernel_rfl) (by kernel_rfl) (by simp [Act.eval, y5]) ?_
              refine (err_any (RBC.out.below (B := 0) hs.below)).mono ?_
              rintro e w' ⟨rfl, hw⟩
              subst hw
              exact ⟨_, rfl, _, rfl, KpB.refl _ _, rfl, hs.other (by decide) (fun h => absurd h (by decide)) (fun h => absurd h (by decide))⟩
            | 7, ho =>
              obtain rfl := Option.some.inj ho
              have yg : Y' 4 = .bool true := hx 4 (hd ⟨4, .guard⟩ (by simp) rfl)
              refine .inl ⟨Eq.trans (b := gdE (Y' 4) true) (by kernel_rfl) (by rw [yg]; rfl), ?_⟩
              exact slot_run (v := .pointer (some ⟨f, 0, none⟩)) (w' := wx) rfl ⟨_, rfl, KpB.refl _ _, rfl, hs.other (by decide) (fun h => absurd h (by decide)) (fun h => absurd h (by decide))⟩
            | 8, ho =>
              obtain rfl := Option.some.inj ho
              have yg : Y' 4 = .bool true := hx 4 (hd ⟨4, .guard⟩ (by simp) rfl)
              refine .inl ⟨Eq.trans (b := gdE (Y' 4) true) (by kernel_rfl) (by rw [yg]; rfl), ?_⟩
              have y7 : Y' 7 = .pointer (some ⟨f, 0, none⟩) := hx 7 (hd ⟨7, .data⟩ (by simp) rfl)
              refine slot_call #[.pointer (some ⟨f, 0, none⟩)] rfl Tryz.func37 (by kernel_rfl) (by kernel_rfl) (by simp [Act.eval, y7]) ?_
              have l2 : L 2 = true := hs.o3 (hs.o4 (hd ⟨4, .guard⟩ (by simp) rfl))
              have hRf := hs.rd
              rw [if_pos l2, if_pos l2] at hRf
              refine (err_any hRf).mono ?_
              rintro e w' ⟨rfl, hw⟩
              subst hw
              exact ⟨_, rfl, _, rfl, KpB.refl _ _, rfl, hs.other (by decide) (fun h => absurd h (by decide)) (fun h => absurd h (by decide))⟩
            | 9, ho =>
              obtain rfl := Option.some.inj ho
              have yg : Y' 4 = .bool true := hx 4 (hd ⟨4, .guard⟩ (by simp) rfl)
              refine .inl ⟨Eq.trans (b := gdE (Y' 4) true) (by kernel_rfl) (by rw [yg]; rfl), ?_⟩
              have y6 : Y' 6 = .int .i64 X.2.2 := hx 6 (hd ⟨6, .data⟩ (by simp) rfl)
              have y8 : Y' 8 = .int .i64 X.2.2 := hx 8 (hd ⟨8, .data⟩ (by simp) rfl)
              refine slot_run (v := .bool true) (w' := wx) ?_ ⟨_, rfl, KpB.refl _ _, rfl, hs.other (by decide) (fun h => absurd h (by decide)) (fun h => absurd h (by decide))⟩
              refine runWithK (fun z' => match z' with | .tmp 85 => Y' 6 | .tmp 87 => Y' 8 | .const c => c | _ => undef) (by kernel_rfl) ?_
              rw [y6, y8]
              go_simp
            | 10, ho =>
              obtain rfl := Option.some.inj ho
              refine .inl ⟨rfl, ?_⟩
              have y4 : Y' 4 = .bool true := hx 4 (hd ⟨4, .data⟩ (by simp) rfl)
              have y9 : Y' 9 = .bool true := hx 9 (hd ⟨9, .data⟩ (by simp) rfl)
              refine slot_run (v := .bool true) (w' := wx) ?_ ⟨_, rfl, KpB.refl _ _, rfl, hs.other (by decide) (fun h => absurd h (by decide)) (fun h => absurd h (by decide))⟩
              refine runWithK (fun z' => match z' with | .tmp 83 => Y' 4 | .tmp 88 => Y' 9 | .const c => c | _ => undef) (by kernel_rfl) ?_
              rw [y4, y9]
              go_simp
            | 11, ho =>
              obtain rfl := Option.some.inj ho
              refine .inl ⟨rfl, ?_⟩
              have y10 : Y' 10 = .bool true := hx 10 (hd ⟨10, .data⟩ (by simp) rfl)
              refine slot_run (v := .bool true) (w' := wx) ?_ ⟨_, rfl, KpB.refl _ _, rfl, hs.other (by decide) (fun h => absurd h (by decide)) (fun h => absurd h (by decide))⟩
              refine runWithK (fun z' => match z' with | .tmp 89 => Y' 10 | .const c => c | _ => undef) (by kernel_rfl) ?_
              rw [y10]
              kernel_rfl
            | k + 12, ho => simp at ho
          · intro L Y' wx hall hx hs
            have yz : Y' 11 = .bool true := hx 11 (hall 11 (by decide))
            rw [yz]
            have RL := Lib.hid (HB2.out.trans ((B2C.out.trans (hs.below.mono B2C.out.size)).mono hN2))
            clear hx hall hs
            go_wp2_with fail
            go_ret
            exact ⟨rfl, RL.out⟩
end Go.Proofs.YtgdoolchmimgbaaGreatDoor.Wi
