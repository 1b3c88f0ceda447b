/- The law RingPlays: its walk. -/
import Derived.Test.YtllnaocnojhlkaaVg
import Derived.Test.YtllnaocnojhlkaaVf
import Derived.Lib.ConvBytes
import Derived.IntWalk
import Derived.Deep.QuietTactic
import Derived.BigQuiet
namespace Go.Proofs.Ytllnaocnojhlkaa.Dk
open Go Go.RowKit
set_option linter.unusedVariables false
set_option linter.unusedSimpArgs false

/-- Where the loop stands that does what the script says. -/
structure PlSt (w w0 wr : World) (count : Nat) (r d g m k : Nat) (text S : List UInt8) (t : TypeId) (x : DS) (n0 : Nat) : Prop where
  R : RingAt wr r d k 1 count text.length S t
  E : DiskAt Try.prog wr d g m n0 x
  K : Keeps 1 count 7 x S text
  rn : ¬ own3 d g m r
  kn : ¬ own3 d g m k
  rb : w.heap.size ≤ r
  kb : w.heap.size ≤ k
  ob : ∀ i, own3 d g m i → w.heap.size ≤ i
  be : Below w.heap.size w wr
def PlRel (w w0 : World) (count : Nat) (d g m : Nat) (N : Nat) (u vt vr : Value) (wr : World) : Prop :=
  ∃ (j r k : Nat) (text S : List UInt8) (t : TypeId) (x : DS) (n0 : Nat), u = .int .i64 (j : Int) ∧ vt = .string (str text) ∧ vr = .pointer (some ⟨r, 0, none⟩) ∧ j ≤ N ∧ text.length ≤ 2000 * j ∧ n0 ≤ 3000 * j ∧ PlSt w w0 wr count r d g m k text S t x n0
theorem str_size (l : List UInt8) : (str l).size = l.length := by simp [str, ByteArray.size]
theorem str_two {a b : List UInt8} (h : a.length + b.length ≤ 1000000) : ¬ 9223372036854775807 < (str a).size + (str b).size := by
  rw [str_size, str_size]
  omega
theorem bytes_frm (w : World) (s : ByteArray) : Frm (fun i => i = w.heap.size) w (Lib.bytesWorld w 5 s) := by
  unfold Lib.bytesWorld
  exact ((((Frm.refl _ w).drew).alloc _).trans (frm_freeze _ w.heap.size _))
theorem bytes_sl (w : World) (s : List UInt8) (c : Nat) : Sl (Lib.bytesWorld w 5 (str s)) (.slice (some ⟨w.heap.size, 0, none⟩) s.length c) s := by
  refine ⟨_, c, rfl, (fun e => by cases e), fun a ha j u hu => ?_⟩
  cases ha
  have hj : j < s.length := by have := (List.getElem?_eq_some_iff.1 hu).1; simpa [bvs] using this
  rw [zadd, Lib.bytesWorld_cell w 5 (str s) j (by rw [str_size]; exact hj)]
  rw [bvs_get s j hj] at hu
  rw [← hu]
  simp [str, bv, List.getD, hj]
theorem keeps_flush {first count N : Nat} {x : DS} {S text : List UInt8} (h : Keeps first count N x S text) (hc : 1 ≤ count) (hN : first + count ≤ N) : Keeps first count N x.flush S text := by
  obtain ⟨g, _, hr⟩ := h.good.flush
  refine ⟨g, fun i hi hu => ?_, h.last⟩
  rw [← h.bytes i hi hu]
  unfold byteAt
  rw [hr _ (sec_lt hc hN i)]
theorem str_extract (t : List UInt8) (a n : Nat) : (str t).extract a (a + n) = str ((t.drop a).take n) := by
  apply ByteArray.ext
  simp [str, ByteArray.data_extract]
/-- max(0, min(z, n)). -/
theorem clamp (z : Int) (n : Nat) : ∃ d : Nat, max 0 (min z (n : Int)) = (d : Int) ∧ d ≤ n := ⟨(max 0 (min z (n : Int))).toNat, by omega, by omega⟩
/-- The bytes that are laid: so often the same. -/
def SRel (w2 : World) (q : List UInt8) (R : Nat) (vs u : Value) (wr : World) : Prop := ∃ (i : Nat) (s : List UInt8), u = .int .i64 (i : Int) ∧ vs = .string (str s) ∧ i ≤ R ∧ s.length = i * q.length ∧ wr = w2
theorem left_clamp {tail hd cn : Nat} (hh : hd ≤ tail) : max 0 (128 * (cn : Int) - ((tail : Int) - (hd : Int) / 128 * 128)) = ((leftN hd tail cn : Nat) : Int) := by
  unfold leftN
  rw [Nat.min_eq_left hh]
  omega
theorem str_nil : str [] = { data := #[] } := rfl
set_option maxRecDepth 100000 in
set_option maxHeartbeats 8000000 in
theorem rplays_any (count : Int) (hcw : wfi count) (ao : Option Addr) (c : Nat) (L : List ROpD) (w : World) (hO : ROps w (.slice ao L.length c) L) :
    Calls Try.prog 3 #[.int .i64 count, .slice ao L.length c] w fun e w' => e = .returned (.bool true) ∧ Below w.heap.size w w' := by
  have HO := Lib.hid hO
  have GO := Lib.hid (goes_any w)
  clear hO
  go_enter Try.func3, Try.ntmps3
  go_wp2_with fail
  refine GO.out.mono ?_
  rintro e w1 ⟨rfl, hb1⟩
  have HB1 := Lib.hid hb1
  clear GO hb1
  by_cases q1 : count < 1
  · go_wp2_with fail
    go_ret
    exact ⟨rfl, HB1.out⟩
  by_cases q2 : 5 < count
  · go_wp2_with fail
    go_ret
    exact ⟨rfl, HB1.out⟩
  by_cases q3 : 40 < L.length
  · have q3i : (40 : Int) < (L.length : Int) := by omega
    go_wp2_with fail
    go_ret
    exact ⟨rfl, HB1.out⟩
  have q3i : ¬ (40 : Int) < (L.length : Int) := by omega
  obtain ⟨cn, rfl⟩ : ∃ cn : Nat, count = (cn : Int) := ⟨count.toNat, by omega⟩
  have NW := Lib.hid (new_any 7 (by decide) (by decide) w1)
  go_wp2_with fail
  refine NW.out.mono ?_
  rintro e w2 ⟨d, g, m, rfl, hD2, hb2, hd, hg, hm⟩
  have HD2 := Lib.hid hD2
  have HB2 := Lib.hid (HB1.out.trans (hb2.mono HB1.out.size))
  have LO := Lib.hid (show ∀ i, own3 d g m i → w.heap.size ≤ i from fun i h => by have := HB1.out.size; rcases h with h | h | h <;> omega)
  have LT := Lib.hid (show ∀ i, own3 d g m i → i < w2.heap.size from fun i h => h.elim (fun h => h ▸ HD2.out.dlt) (fun h => h.elim (fun h => h ▸ HD2.out.glt) (fun h => h ▸ HD2.out.mlt)))
  clear NW hD2 hb2 hd hg hm
  have OP := Lib.hid (open_keeps (first := 1) (count := cn) (N := 7) (S := []) HD2.out (keeps_nil (good_new 7)) (by omega) (by omega) (by decide))
  go_wp2_with fail
  refine OP.out.mono ?_
  rintro e w3 ⟨r, k, S, rfl, hR3, hK3, hb3, hr, hk⟩
  have J3 := Lib.hid (show PlRel w w3 cn d g m L.length (.int .i64 0) (.string { data := #[] }) (.pointer (some ⟨r, 0, none⟩)) w3 from
    ⟨0, r, k, [], S, _, _, 0, rfl, rfl, rfl, Nat.zero_le _, Nat.le_refl _, Nat.le_refl _, hR3, HD2.out.below hb3 (Nat.le_refl _), hK3, fun e => by have := LT.out r e; omega, fun e => by have := LT.out k e; omega, by have := HB2.out.size; omega, by have := HB2.out.size; omega, LO.out, HB2.out.trans (hb3.mono HB2.out.size)⟩)
  clear hR3 hK3 hb3 hr hk OP HD2
  go_wp2_with fail
  go_loopw [52, 10, 7] (fun u vt vr wr => PlRel w w3 cn d g m L.length u vt vr wr) (fun u _ _ _ => L.length - (intOf u).toNat)
  case atStart => exact J3.out
  case round =>
    obtain ⟨wo, rfl⟩ : ∃ wo : World, wo = wr := ⟨_, rfl⟩
    obtain ⟨j, r, k, text, S, t, x, n0, rfl, rfl, rfl, hj, htl, hn0, P⟩ := hrel
    have PP := Lib.hid P
    clear P
    by_cases hjl : j < L.length
    · have hji : (j : Int) < (L.length : Int) := by omega
      obtain ⟨a, rfl, hcell, hg⟩ := (HO.out.below PP.out.be (Nat.le_refl _)).at hjl
      obtain ⟨p, hp⟩ : ∃ p, p = L.getD j default := ⟨_, rfl⟩
      rw [← hp] at hcell hg
      have HGD := Lib.hid hg
      have HC := Lib.hid hcell
      have HZ := Lib.hid (Try.ropSize p)
      obtain ⟨w2', hw2⟩ : ∃ w2, w2 = wo.alloc (.cells p.cells.toArray 34) := ⟨_, rfl⟩
      have hr2 := heap_alloc_new wo (.cells p.cells.toArray 34)
      rw [← hw2] at hr2
      have u0 : w2'.cell? ⟨wo.heap.size, 0, none⟩ = some (.int .i64 p.kind) := by rw [cell_of_row w2' wo.heap.size 0 _ _ _ hr2]; rfl
      have u1 : w2'.cell? ⟨wo.heap.size, 1, none⟩ = some (.int .i64 p.head) := by rw [cell_of_row w2' wo.heap.size 1 _ _ _ hr2]; rfl
      have u2 : w2'.cell? ⟨wo.heap.size, 2, none⟩ = some (.int .i64 p.at_) := by rw [cell_of_row w2' wo.heap.size 2 _ _ _ hr2]; rfl
      have u3 : w2'.cell? ⟨wo.heap.size, 3, none⟩ = some (.int .i64 p.n) := by rw [cell_of_row w2' wo.heap.size 3 _ _ _ hr2]; rfl
      have u4 : w2'.cell? ⟨wo.heap.size, 4, none⟩ = some (.int .i64 p.often) := by rw [cell_of_row w2' wo.heap.size 4 _ _ _ hr2]; rfl
      have u5 : w2'.cell? ⟨wo.heap.size, 5, none⟩ = some (.slice p.ao p.data.length p.cap) := by rw [cell_of_row w2' wo.heap.size 5 _ _ _ hr2]; rfl
      have HR2 := Lib.hid hr2
      have HW := Lib.hid hw2
      have F2 := Lib.hid (show Below wo.heap.size wo w2' by rw [hw2]; exact (Below.refl _ _).alloc (Nat.le_refl _) _)
      have HO1 := Lib.hid p.cells_one
      have HZ2 := Lib.hid (show (Try.prog.info? 34).map (·.size) = some p.cells.toArray.size by rw [List.size_toArray]; exact HZ.out)
      clear hg hcell hp hw2 hr2 J3
      by_cases c100 : 100 < p.data.length
      · have c100i : (100 : Int) < (p.data.length : Int) := by omega
        go_wp2_with (first | (with_reducible show wpList _ _ _ _ _ _; refine wpList_load_all rfl 34 (.tmp 54) rfl (a.add (j * 6)) rfl p.cells _ HC.out Try.underlying34 rfl HZ.out ?_) | (with_reducible show wpList _ _ _ _ _ _; refine wpList_store_new rfl 34 (.tmp 12) (.tmp 55) rfl 34 #[.int .i64 0, .int .i64 0, .int .i64 0, .int .i64 0, .int .i64 0, .slice none 0 0] p.cells.toArray rfl rfl HZ2.out rfl HO1.out ?_; rw [← HW.out]))
        go_ret
        exact ⟨rfl, PP.out.be.trans (F2.out.mono PP.out.be.size)⟩
      have c100i : ¬ (100 : Int) < (p.data.length : Int) := by omega
      by_cases k0 : p.kind = 0
      · rw [k0] at u0
        obtain ⟨rp, hrp', hrl⟩ := clamp p.often 20
        have hrp : max 0 (min p.often 20) = (rp : Int) := hrp'
        have S0 := Lib.hid (show SRel w2' p.data rp (.string { data := #[] }) (.int .i64 0) w2' from ⟨0, [], rfl, rfl, Nat.zero_le _, by simp, rfl⟩)
        clear hrp'
        go_wp2_with (first | (with_reducible show wpList _ _ _ _ _ _; refine wpList_load_all rfl 34 (.tmp 54) rfl (a.add (j * 6)) rfl p.cells _ HC.out Try.underlying34 rfl HZ.out ?_) | (with_reducible show wpList _ _ _ _ _ _; refine wpList_store_new rfl 34 (.tmp 12) (.tmp 55) rfl 34 #[.int .i64 0, .int .i64 0, .int .i64 0, .int .i64 0, .int .i64 0, .slice none 0 0] p.cells.toArray rfl rfl HZ2.out rfl HO1.out ?_; rw [← HW.out]))
        go_loopw [13, 68] (fun vs u wr => SRel w2' p.data rp vs u wr) (fun _ u _ => rp - (intOf u).toNat)
        case atStart => exact S0.out
        case round =>
          obtain ⟨i, s, rfl, rfl, hi, hsl, hwr⟩ := hrel
          obtain rfl := hwr.symm
          clear hwr
          have HGO2 := Lib.hid ((HGD.out.below F2.out (Nat.le_refl _)).data)
          by_cases hir : i < rp
          · have hii : (i : Int) < (rp : Int) := by omega
            have cv := (HGO2.out).convert.1
            have hle : s.length ≤ 20 * 100 := by rw [hsl]; exact Nat.mul_le_mul (by omega) (by omega)
            have htw := str_two (a := s) (b := p.data) (by omega)
            have RL := Lib.hid (show SRel w2' p.data rp (.string (str s ++ str p.data)) (.int .i64 ((i + 1 : Nat) : Int)) w2' from ⟨i + 1, s ++ p.data, rfl, by rw [str_append], by omega, by rw [List.length_append, hsl, Nat.add_mul, Nat.one_mul], rfl⟩)
            clear hsl hle S0
            go_wp2_with fail
            exact ⟨RL.out, by simp [intOf]; omega⟩
          · obtain rfl : i = rp := by omega
            have hle : s.length ≤ 20 * 100 := by rw [hsl]; exact Nat.mul_le_mul (by omega) (by omega)
            have tsz := str_size text
            have ssz := str_size s
            obtain ⟨hd', hmd, hdl⟩ := clamp p.head text.length
            obtain ⟨hd, hhd⟩ : ∃ hd, hd = text.length - hd' := ⟨_, rfl⟩
            have hhdI : (text.length : Int) - (hd' : Int) = (hd : Int) := by omega
            have hlm := left_clamp (tail := text.length) (hd := hd) (cn := cn) (by omega)
            have LF := Lib.hid (left_any (PP.out.R.below F2.out (Nat.le_refl _)) (by omega) hd (by omega))
            obtain ⟨lf, hlf⟩ : ∃ lf, lf = leftN hd text.length cn := ⟨_, rfl⟩
            rw [← hlf] at LF hlm
            have hwu : IntKind.u64.wrap (hd : Int) = (hd : Int) := by rw [IntKind.wrap_u64]; omega
            have HLF := Lib.hid hlf
            have HSL := Lib.hid hsl
            have tb : (text.length : Int) ≤ 80000 := by omega
            have sb : (s.length : Int) ≤ 2000 := by omega
            have hdb : (hd : Int) ≤ 80000 := by omega
            have HHL := Lib.hid (show hd ≤ text.length from by omega)
            clear hlf hsl S0 hhd hdl
            by_cases fit : s.length ≤ lf
            · have fitI : ¬ (lf : Int) < (s.length : Int) := by omega
              go_wp2_with fail
              refine LF.out.mono ?_
              rintro e w5 ⟨rfl, m5, rfl⟩
              have hcv := Lib.run_convert_string_bytes (P := Try.prog) (w2'.drewN m5) 9 32 5 (str s) Try.underlying9 Try.underlying32 Try.underlying5
              have fB := bytes_frm (w2'.drewN m5) (str s)
              have hslB := bytes_sl (w2'.drewN m5) s (grownCap (w2'.drewN m5) (str s).size 0 5)
              obtain ⟨wB, hwB⟩ : ∃ wB, wB = Lib.bytesWorld (w2'.drewN m5) 5 (str s) := ⟨_, rfl⟩
              rw [← hwB] at hcv fB hslB
              rw [ssz] at hcv
              rw [ssz] at hslB
              obtain ⟨gc, hgc⟩ : ∃ gc, gc = grownCap (w2'.drewN m5) s.length 0 5 := ⟨_, rfl⟩
              rw [← hgc] at hcv hslB
              have hP := one_parts hslB
              have fB' : Below w2'.heap.size w2' wB := (below_drewN (Below.refl _ _) m5).trans (fB.below (fun i _ e => by simp at e; omega) (Nat.le_refl _))
              obtain ⟨wC, hwC⟩ : ∃ wC, wC = wB.alloc (.cells #[.slice (some ⟨w2'.heap.size, 0, none⟩) s.length gc] 32 (0, 0)) := ⟨_, rfl⟩
              have hP : Parts wC (.slice (some ⟨wB.heap.size, 0, none⟩) 1 1) [s] := by rw [hwC]; exact hP
              have fC : Below w2'.heap.size w2' wC := by rw [hwC]; exact fB'.alloc fB'.size _
              have fD := F2.out.trans (fC.mono F2.out.size)
              have HD := Lib.hid fD
              have HWC := Lib.hid hwC
              have eS : sumLen [s] = s.length := by simp [sumLen]
              have AP := Lib.hid (append_keeps (PP.out.R.below HD.out (Nat.le_refl _)) (by omega) (PP.out.E.below HD.out (Nat.le_refl _)) PP.out.K (by omega) PP.out.rn PP.out.kn (by omega) hd (by omega) _ 1 [s] hP (by simp) (by rw [eS]; omega) (by rw [eS, ← HLF.out]; omega))
              rw [show [s].flatten = s by simp, eS] at AP
              have hD0 := PP.out.be.trans (fD.mono PP.out.be.size)
              have HDS := Lib.hid fD.size
              clear fB hslB hP fB' hwB fC fD hgc hwC eS
              go_wp2_with fail
              first | (rw [hcv]; go_wp2_with fail) | skip
              rw [← HWC.out]
              refine AP.out.mono ?_
              rintro e w6 ⟨rfl, k6, S6, t6, x6, n6, hR6, hkn6, hkr6, hkc6, hE6, hn6, hK6, hF6⟩
              have hkb : w.heap.size ≤ k6 := by
                have h1 := PP.out.be.size
                rcases hkc6 with h | h
                · subst h; exact PP.out.kb
                · have := HDS.out; omega
              have P6 := Lib.hid (show PlSt w w3 w6 cn r d g m k6 (text ++ s) S6 t6 x6 n6 from ⟨hR6, hE6, hK6, PP.out.rn, hkn6, PP.out.rb, hkb, PP.out.ob, hD0.trans (hF6.below (fun i _ e => e.elim (fun e => e ▸ PP.out.rb) (fun e => PP.out.ob i e)) hD0.size)⟩)
              have RL := Lib.hid (show PlRel w w3 cn d g m L.length (.int .i64 ((j + 1 : Nat) : Int)) (.string (str text ++ str s)) (.pointer (some ⟨r, 0, none⟩)) w6 from
                ⟨j + 1, r, k6, text ++ s, S6, t6, x6, n6, rfl, by rw [str_append], rfl, by omega, by rw [List.length_append]; omega, by omega, P6.out⟩)
              have hw9 : IntKind.u64.wrap ((text.length : Int) + (s.length : Int)) = (text.length : Int) + (s.length : Int) := by rw [IntKind.wrap_u64]; omega
              have htw : ¬ 9223372036854775807 < text.length + s.length := by omega
              have TA := Lib.hid (tail_any P6.out.R)
              have SZ := Lib.hid (size_any P6.out.R)
              rw [show ((cn * 128 : Nat) : Int) = 128 * (cn : Int) by omega] at SZ
              rw [List.length_append, Int.natCast_add] at TA
              clear hR6 hkn6 hkr6 hkc6 hE6 hn6 hK6 hF6 hkb AP hD0 hcv
              go_wp2_with (first | (go_at_call 22; refine TA.out.mono ?_; rintro e w' ⟨rfl, rfl⟩) | (go_at_call 23; refine SZ.out.mono ?_; rintro e w' ⟨rfl, rfl⟩))
              exact ⟨RL.out, by simp [intOf]; omega⟩
            · have fitI : (lf : Int) < (s.length : Int) := by omega
              go_wp2_with fail
              refine LF.out.mono ?_
              rintro e w5 ⟨rfl, m5, rfl⟩
              have hcv := Lib.run_convert_string_bytes (P := Try.prog) (w2'.drewN m5) 9 32 5 (str s) Try.underlying9 Try.underlying32 Try.underlying5
              have fB := bytes_frm (w2'.drewN m5) (str s)
              have hslB := bytes_sl (w2'.drewN m5) s (grownCap (w2'.drewN m5) (str s).size 0 5)
              obtain ⟨wB, hwB⟩ : ∃ wB, wB = Lib.bytesWorld (w2'.drewN m5) 5 (str s) := ⟨_, rfl⟩
              rw [← hwB] at hcv fB hslB
              rw [ssz] at hcv
              rw [ssz] at hslB
              obtain ⟨gc, hgc⟩ : ∃ gc, gc = grownCap (w2'.drewN m5) s.length 0 5 := ⟨_, rfl⟩
              rw [← hgc] at hcv hslB
              have hP := one_parts hslB
              have fB' : Below w2'.heap.size w2' wB := (below_drewN (Below.refl _ _) m5).trans (fB.below (fun i _ e => by simp at e; omega) (Nat.le_refl _))
              obtain ⟨wC, hwC⟩ : ∃ wC, wC = wB.alloc (.cells #[.slice (some ⟨w2'.heap.size, 0, none⟩) s.length gc] 32 (0, 0)) := ⟨_, rfl⟩
              have hP : Parts wC (.slice (some ⟨wB.heap.size, 0, none⟩) 1 1) [s] := by rw [hwC]; exact hP
              have fC : Below w2'.heap.size w2' wC := by rw [hwC]; exact fB'.alloc fB'.size _
              have fD := F2.out.trans (fC.mono F2.out.size)
              have HD := Lib.hid fD
              have HWC := Lib.hid hwC
              have eS : sumLen [s] = s.length := by simp [sumLen]
              have AP := Lib.hid (append_any (PP.out.R.below HD.out (Nat.le_refl _)) (by omega) (PP.out.E.below HD.out (Nat.le_refl _)) PP.out.rn PP.out.kn (by omega) hd (by omega) _ 1 [s] hP (by simp) (by rw [eS]; omega))
              rw [show [s].flatten = s by simp, eS] at AP
              have hD0 := PP.out.be.trans (fD.mono PP.out.be.size)
              have HDS := Lib.hid fD.size
              clear fB hslB hP fB' hwB fC fD hgc hwC eS
              go_wp2_with fail
              first | (rw [hcv]; go_wp2_with fail) | skip
              rw [← HWC.out]
              refine AP.out.mono ?_
              rintro e w6 (⟨h1, rfl, q, rfl⟩ | ⟨h0, _⟩ | ⟨h1, h2, _⟩)
              rotate_left
              · omega
              · rw [← HLF.out] at h2; omega
              have P6 := Lib.hid (show PlSt w w3 (wC.drewN q) cn r d g m k text S t x n0 from ⟨(PP.out.R.below HD.out (Nat.le_refl _)).keep rfl rfl, (PP.out.E.below HD.out (Nat.le_refl _)).drewN q, PP.out.K, PP.out.rn, PP.out.kn, PP.out.rb, PP.out.kb, PP.out.ob, below_drewN hD0 q⟩)
              have RL := Lib.hid (show PlRel w w3 cn d g m L.length (.int .i64 ((j + 1 : Nat) : Int)) (.string (str text)) (.pointer (some ⟨r, 0, none⟩)) (wC.drewN q) from
                ⟨j + 1, r, k, text, S, t, x, n0, rfl, rfl, rfl, by omega, by omega, by omega, P6.out⟩)
              have hw9 : IntKind.u64.wrap (text.length : Int) = (text.length : Int) := by rw [IntKind.wrap_u64]; omega
              have TA := Lib.hid (tail_any P6.out.R)
              have SZ := Lib.hid (size_any P6.out.R)
              rw [show ((cn * 128 : Nat) : Int) = 128 * (cn : Int) by omega] at SZ
              clear h1 AP hD0 hcv
              go_wp2_with (first | (go_at_call 22; refine TA.out.mono ?_; rintro e w' ⟨rfl, rfl⟩) | (go_at_call 23; refine SZ.out.mono ?_; rintro e w' ⟨rfl, rfl⟩))
              exact ⟨RL.out, by simp [intOf]; omega⟩
      have tsz := str_size text
      have hw9 : IntKind.u64.wrap (text.length : Int) = (text.length : Int) := by rw [IntKind.wrap_u64]; omega
      have HB5 := Lib.hid (PP.out.be.trans (F2.out.mono PP.out.be.size))
      by_cases k1 : p.kind = 1
      · rw [k1] at u0
        obtain ⟨ad, had, hadl⟩ := clamp p.at_ text.length
        obtain ⟨at_, hat⟩ : ∃ at_, at_ = text.length - ad := ⟨_, rfl⟩
        have hatI : (text.length : Int) - (ad : Int) = (at_ : Int) := by omega
        have hwu : IntKind.u64.wrap (at_ : Int) = (at_ : Int) := by rw [IntKind.wrap_u64]; omega
        obtain ⟨df, hdf⟩ : ∃ df, df = text.length - at_ := ⟨_, rfl⟩
        have hdfI : (text.length : Int) - (at_ : Int) = (df : Int) := by omega
        have hatl : at_ ≤ text.length := by omega
        have hatb : (at_ : Int) ≤ 80000 := by omega
        have tb : (text.length : Int) ≤ 80000 := by omega
        clear hat hadl
        by_cases n0' : p.n < 0
        · have RD := Lib.hid (rread_range (PP.out.R.below F2.out (Nat.le_refl _)) (by omega) at_ hatl p.n HGD.out.n (.inl n0'))
          clear hdf hatl
          go_wp2_with (first | (with_reducible show wpList _ _ _ _ _ _; refine wpList_load_all rfl 34 (.tmp 54) rfl (a.add (j * 6)) rfl p.cells _ HC.out Try.underlying34 rfl HZ.out ?_) | (with_reducible show wpList _ _ _ _ _ _; refine wpList_store_new rfl 34 (.tmp 12) (.tmp 55) rfl 34 #[.int .i64 0, .int .i64 0, .int .i64 0, .int .i64 0, .int .i64 0, .slice none 0 0] p.cells.toArray rfl rfl HZ2.out rfl HO1.out ?_; rw [← HW.out]))
          refine RD.out.mono ?_
          rintro e w' ⟨rfl, rfl⟩
          have P6 := Lib.hid (show PlSt w w3 w2' cn r d g m k text S t x n0 from ⟨PP.out.R.below F2.out (Nat.le_refl _), PP.out.E.below F2.out (Nat.le_refl _), PP.out.K, PP.out.rn, PP.out.kn, PP.out.rb, PP.out.kb, PP.out.ob, HB5.out⟩)
          have RL := Lib.hid (show PlRel w w3 cn d g m L.length (.int .i64 ((j + 1 : Nat) : Int)) (.string (str text)) (.pointer (some ⟨r, 0, none⟩)) w2' from
            ⟨j + 1, r, k, text, S, t, x, n0, rfl, rfl, rfl, by omega, by omega, by omega, P6.out⟩)
          have TA := Lib.hid (tail_any P6.out.R)
          have SZ := Lib.hid (size_any P6.out.R)
          rw [show ((cn * 128 : Nat) : Int) = 128 * (cn : Int) by omega] at SZ
          go_wp2_with (first | (go_at_call 22; refine TA.out.mono ?_; rintro e w' ⟨rfl, rfl⟩) | (go_at_call 23; refine SZ.out.mono ?_; rintro e w' ⟨rfl, rfl⟩))
          exact ⟨RL.out, by simp [intOf]; omega⟩
        by_cases nd : (df : Int) < p.n
        · have RD := Lib.hid (rread_range (PP.out.R.below F2.out (Nat.le_refl _)) (by omega) at_ hatl p.n HGD.out.n (.inr (by rw [← hdf]; exact nd)))
          clear hdf hatl
          go_wp2_with (first | (with_reducible show wpList _ _ _ _ _ _; refine wpList_load_all rfl 34 (.tmp 54) rfl (a.add (j * 6)) rfl p.cells _ HC.out Try.underlying34 rfl HZ.out ?_) | (with_reducible show wpList _ _ _ _ _ _; refine wpList_store_new rfl 34 (.tmp 12) (.tmp 55) rfl 34 #[.int .i64 0, .int .i64 0, .int .i64 0, .int .i64 0, .int .i64 0, .slice none 0 0] p.cells.toArray rfl rfl HZ2.out rfl HO1.out ?_; rw [← HW.out]))
          refine RD.out.mono ?_
          rintro e w' ⟨rfl, rfl⟩
          have P6 := Lib.hid (show PlSt w w3 w2' cn r d g m k text S t x n0 from ⟨PP.out.R.below F2.out (Nat.le_refl _), PP.out.E.below F2.out (Nat.le_refl _), PP.out.K, PP.out.rn, PP.out.kn, PP.out.rb, PP.out.kb, PP.out.ob, HB5.out⟩)
          have RL := Lib.hid (show PlRel w w3 cn d g m L.length (.int .i64 ((j + 1 : Nat) : Int)) (.string (str text)) (.pointer (some ⟨r, 0, none⟩)) w2' from
            ⟨j + 1, r, k, text, S, t, x, n0, rfl, rfl, rfl, by omega, by omega, by omega, P6.out⟩)
          have TA := Lib.hid (tail_any P6.out.R)
          have SZ := Lib.hid (size_any P6.out.R)
          rw [show ((cn * 128 : Nat) : Int) = 128 * (cn : Int) by omega] at SZ
          go_wp2_with (first | (go_at_call 22; refine TA.out.mono ?_; rintro e w' ⟨rfl, rfl⟩) | (go_at_call 23; refine SZ.out.mono ?_; rintro e w' ⟨rfl, rfl⟩))
          exact ⟨RL.out, by simp [intOf]; omega⟩
        obtain ⟨nn, hnn⟩ : ∃ nn : Nat, p.n = (nn : Int) := ⟨p.n.toNat, by omega⟩
        rw [hnn] at u3 n0' nd
        have hth : thereN text.length cn < df ↔ 128 * (cn : Int) < ((text.length : Int) + 127) / 128 * 128 - (at_ : Int) := by
          unfold thereN
          split <;> omega
        by_cases mi : thereN text.length cn < df
        · have mi' := hth.1 mi
          have RD := Lib.hid (rread_missing (PP.out.R.below F2.out (Nat.le_refl _)) (by omega) at_ nn (by omega) (by rw [← hdf]; exact mi))
          clear hdf hatl hth mi hnn
          go_wp2_with (first | (with_reducible show wpList _ _ _ _ _ _; refine wpList_load_all rfl 34 (.tmp 54) rfl (a.add (j * 6)) rfl p.cells _ HC.out Try.underlying34 rfl HZ.out ?_) | (with_reducible show wpList _ _ _ _ _ _; refine wpList_store_new rfl 34 (.tmp 12) (.tmp 55) rfl 34 #[.int .i64 0, .int .i64 0, .int .i64 0, .int .i64 0, .int .i64 0, .slice none 0 0] p.cells.toArray rfl rfl HZ2.out rfl HO1.out ?_; rw [← HW.out]))
          refine RD.out.mono ?_
          rintro e w' ⟨rfl, q, rfl⟩
          have P6 := Lib.hid (show PlSt w w3 (w2'.drewN q) cn r d g m k text S t x n0 from ⟨(PP.out.R.below F2.out (Nat.le_refl _)).keep rfl rfl, (PP.out.E.below F2.out (Nat.le_refl _)).drewN q, PP.out.K, PP.out.rn, PP.out.kn, PP.out.rb, PP.out.kb, PP.out.ob, below_drewN HB5.out q⟩)
          have RL := Lib.hid (show PlRel w w3 cn d g m L.length (.int .i64 ((j + 1 : Nat) : Int)) (.string (str text)) (.pointer (some ⟨r, 0, none⟩)) (w2'.drewN q) from
            ⟨j + 1, r, k, text, S, t, x, n0, rfl, rfl, rfl, by omega, by omega, by omega, P6.out⟩)
          have TA := Lib.hid (tail_any P6.out.R)
          have SZ := Lib.hid (size_any P6.out.R)
          rw [show ((cn * 128 : Nat) : Int) = 128 * (cn : Int) by omega] at SZ
          go_wp2_with (first | (go_at_call 22; refine TA.out.mono ?_; rintro e w' ⟨rfl, rfl⟩) | (go_at_call 23; refine SZ.out.mono ?_; rintro e w' ⟨rfl, rfl⟩))
          exact ⟨RL.out, by simp [intOf]; omega⟩
        · have mi' : ¬ 128 * (cn : Int) < ((text.length : Int) + 127) / 128 * 128 - (at_ : Int) := fun h => mi (hth.2 h)
          have RD := Lib.hid (read_keeps (PP.out.R.below F2.out (Nat.le_refl _)) (by omega) (PP.out.E.below F2.out (Nat.le_refl _)) PP.out.K (by omega) at_ nn (by omega) (by rw [← hdf]; omega))
          have HDF := Lib.hid hdf
          clear hdf hatl hth mi hnn
          go_wp2_with (first | (with_reducible show wpList _ _ _ _ _ _; refine wpList_load_all rfl 34 (.tmp 54) rfl (a.add (j * 6)) rfl p.cells _ HC.out Try.underlying34 rfl HZ.out ?_) | (with_reducible show wpList _ _ _ _ _ _; refine wpList_store_new rfl 34 (.tmp 12) (.tmp 55) rfl 34 #[.int .i64 0, .int .i64 0, .int .i64 0, .int .i64 0, .int .i64 0, .slice none 0 0] p.cells.toArray rfl rfl HZ2.out rfl HO1.out ?_; rw [← HW.out]))
          refine RD.out.mono ?_
          rintro e w6 ⟨ko, co, rfl, hrow, hko, hb6⟩
          have u3' : w6.cell? ⟨wo.heap.size, 3, none⟩ = some (.int .i64 (nn : Int)) := by rw [hb6.cell (p := ⟨wo.heap.size, 3, none⟩) (lt_of_row HR2.out)]; exact u3
          have HB6 := Lib.hid (HB5.out.trans (hb6.mono HB5.out.size))
          have hTl : ((text.drop at_).take nn).length = nn := by rw [List.length_take, List.length_drop, ← HDF.out]; omega
          have cB := fun q => (sl_row (w := w6.drewN q) (n := nn) (c := co) hrow hTl).convert.1
          have P6 := Lib.hid (show PlSt w w3 w6 cn r d g m k text S t x n0 from ⟨(PP.out.R.below F2.out (Nat.le_refl _)).below hb6 (Nat.le_refl _), (PP.out.E.below F2.out (Nat.le_refl _)).below hb6 (Nat.le_refl _), PP.out.K, PP.out.rn, PP.out.kn, PP.out.rb, PP.out.kb, PP.out.ob, HB6.out⟩)
          clear hrow hko hb6 RD
          go_wp2_with fail
          have hwr : IntKind.i64.wrap ((at_ : Int) + (nn : Int)) = (at_ : Int) + (nn : Int) := IntWalk.i64_in _ (by omega)
          have hle1 : at_ + nn ≤ text.length := by have := HDF.out; omega
          have hle2 : (at_ : Int) + (nn : Int) ≤ (text.length : Int) := by omega
          have hle3 : (0 : Int) ≤ (at_ : Int) + (nn : Int) := by omega
          have hnat : ((at_ : Int) + (nn : Int)).toNat = at_ + nn := by omega
          have hex := str_extract text at_ nn
          go_quiet (fail)
          have RL := Lib.hid (show PlRel w w3 cn d g m L.length (.int .i64 ((j + 1 : Nat) : Int)) (.string (str text)) (.pointer (some ⟨r, 0, none⟩)) (w6.drewN nq) from
            ⟨j + 1, r, k, text, S, t, x, n0, rfl, rfl, rfl, by omega, by omega, by omega, P6.out.R.keep rfl rfl, P6.out.E.drewN nq, PP.out.K, PP.out.rn, PP.out.kn, PP.out.rb, PP.out.kb, PP.out.ob, below_drewN HB6.out nq⟩)
          have TA := Lib.hid (tail_any (w := w6.drewN nq) (P6.out.R.keep rfl rfl))
          have SZ := Lib.hid (size_any (w := w6.drewN nq) (P6.out.R.keep rfl rfl))
          rw [show ((cn * 128 : Nat) : Int) = 128 * (cn : Int) by omega] at SZ
          clear hwr hle1 hle2 hle3 hnat hex cB u3'
          go_wp2_with (first | (go_at_call 22; refine TA.out.mono ?_; rintro e w' ⟨rfl, rfl⟩) | (go_at_call 23; refine SZ.out.mono ?_; rintro e w' ⟨rfl, rfl⟩))
          exact ⟨RL.out, by simp [intOf]; omega⟩
      by_cases k2 : p.kind = 2
      · rw [k2] at u0
        have FL := Lib.hid (flush_any (PP.out.E.below F2.out (Nat.le_refl _)) (fun i l _ hl => by have h1 := PP.out.K.good.wl i l hl; simp [DS.has, PP.out.K.good.n]; omega))
        rw [PP.out.K.good.flush.2.1] at FL
        go_wp2_with (first | (with_reducible show wpList _ _ _ _ _ _; refine wpList_load_all rfl 34 (.tmp 54) rfl (a.add (j * 6)) rfl p.cells _ HC.out Try.underlying34 rfl HZ.out ?_) | (with_reducible show wpList _ _ _ _ _ _; refine wpList_store_new rfl 34 (.tmp 12) (.tmp 55) rfl 34 #[.int .i64 0, .int .i64 0, .int .i64 0, .int .i64 0, .int .i64 0, .slice none 0 0] p.cells.toArray rfl rfl HZ2.out rfl HO1.out ?_; rw [← HW.out]))
        refine FL.out.mono ?_
        rintro e w6 ⟨rfl, hE6, hF6⟩
        have P6 := Lib.hid (show PlSt w w3 w6 cn r d g m k text S t x.flush n0 from ⟨(PP.out.R.below F2.out (Nat.le_refl _)).frame hF6 PP.out.rn PP.out.kn, hE6, keeps_flush PP.out.K (by omega) (by omega), PP.out.rn, PP.out.kn, PP.out.rb, PP.out.kb, PP.out.ob, HB5.out.trans (hF6.below (fun i _ e => PP.out.ob i e) HB5.out.size)⟩)
        have RL := Lib.hid (show PlRel w w3 cn d g m L.length (.int .i64 ((j + 1 : Nat) : Int)) (.string (str text)) (.pointer (some ⟨r, 0, none⟩)) w6 from
          ⟨j + 1, r, k, text, S, t, x.flush, n0, rfl, rfl, rfl, by omega, by omega, by omega, P6.out⟩)
        have TA := Lib.hid (tail_any P6.out.R)
        have SZ := Lib.hid (size_any P6.out.R)
        rw [show ((cn * 128 : Nat) : Int) = 128 * (cn : Int) by omega] at SZ
        clear hE6 hF6 FL
        go_wp2_with (first | (go_at_call 22; refine TA.out.mono ?_; rintro e w' ⟨rfl, rfl⟩) | (go_at_call 23; refine SZ.out.mono ?_; rintro e w' ⟨rfl, rfl⟩))
        exact ⟨RL.out, by simp [intOf]; omega⟩
      by_cases k3 : p.kind = 3
      · rw [k3] at u0
        have OP := Lib.hid (open_keeps (PP.out.E.below F2.out (Nat.le_refl _)) PP.out.K (by omega) (by omega) (by omega))
        go_wp2_with (first | (with_reducible show wpList _ _ _ _ _ _; refine wpList_load_all rfl 34 (.tmp 54) rfl (a.add (j * 6)) rfl p.cells _ HC.out Try.underlying34 rfl HZ.out ?_) | (with_reducible show wpList _ _ _ _ _ _; refine wpList_store_new rfl 34 (.tmp 12) (.tmp 55) rfl 34 #[.int .i64 0, .int .i64 0, .int .i64 0, .int .i64 0, .int .i64 0, .slice none 0 0] p.cells.toArray rfl rfl HZ2.out rfl HO1.out ?_; rw [← HW.out]))
        refine OP.out.mono ?_
        rintro e w6 ⟨r6, k6, S6, rfl, hR6, hK6, hb6, hr6, hk6⟩
        have hE := PP.out.E.below F2.out (Nat.le_refl _)
        have hnr : ∀ i, own3 d g m i → i < w2'.heap.size := fun i h => h.elim (fun h => h ▸ hE.dlt) (fun h => h.elim (fun h => h ▸ hE.glt) (fun h => h ▸ hE.mlt))
        have P6 := Lib.hid (show PlSt w w3 w6 cn r6 d g m k6 text S6 _ x n0 from ⟨hR6, (PP.out.E.below F2.out (Nat.le_refl _)).below hb6 (Nat.le_refl _), hK6, fun e => by have := hnr r6 e; omega, fun e => by have := hnr k6 e; omega, by have := HB5.out.size; omega, by have := HB5.out.size; omega, PP.out.ob, HB5.out.trans (hb6.mono HB5.out.size)⟩)
        have RL := Lib.hid (show PlRel w w3 cn d g m L.length (.int .i64 ((j + 1 : Nat) : Int)) (.string (str text)) (.pointer (some ⟨r6, 0, none⟩)) w6 from
          ⟨j + 1, r6, k6, text, S6, _, x, n0, rfl, rfl, rfl, by omega, by omega, by omega, P6.out⟩)
        have TA := Lib.hid (tail_any P6.out.R)
        have SZ := Lib.hid (size_any P6.out.R)
        rw [show ((cn * 128 : Nat) : Int) = 128 * (cn : Int) by omega] at SZ
        clear hR6 hK6 hb6 hr6 hk6 OP hE hnr
        go_wp2_with (first | (go_at_call 22; refine TA.out.mono ?_; rintro e w' ⟨rfl, rfl⟩) | (go_at_call 23; refine SZ.out.mono ?_; rintro e w' ⟨rfl, rfl⟩))
        exact ⟨RL.out, by simp [intOf]; omega⟩
      have k0b : (p.kind == 0) = false := by simpa using k0
      have k1b : (p.kind == 1) = false := by simpa using k1
      have k2b : (p.kind == 2) = false := by simpa using k2
      have k3b : (p.kind == 3) = false := by simpa using k3
      go_wp2_with (first | (with_reducible show wpList _ _ _ _ _ _; refine wpList_load_all rfl 34 (.tmp 54) rfl (a.add (j * 6)) rfl p.cells _ HC.out Try.underlying34 rfl HZ.out ?_) | (with_reducible show wpList _ _ _ _ _ _; refine wpList_store_new rfl 34 (.tmp 12) (.tmp 55) rfl 34 #[.int .i64 0, .int .i64 0, .int .i64 0, .int .i64 0, .int .i64 0, .slice none 0 0] p.cells.toArray rfl rfl HZ2.out rfl HO1.out ?_; rw [← HW.out]))
      have P6 := Lib.hid (show PlSt w w3 w2' cn r d g m k text S t x n0 from ⟨PP.out.R.below F2.out (Nat.le_refl _), PP.out.E.below F2.out (Nat.le_refl _), PP.out.K, PP.out.rn, PP.out.kn, PP.out.rb, PP.out.kb, PP.out.ob, HB5.out⟩)
      have RL := Lib.hid (show PlRel w w3 cn d g m L.length (.int .i64 ((j + 1 : Nat) : Int)) (.string (str text)) (.pointer (some ⟨r, 0, none⟩)) w2' from
        ⟨j + 1, r, k, text, S, t, x, n0, rfl, rfl, rfl, by omega, by omega, by omega, P6.out⟩)
      have TA := Lib.hid (tail_any P6.out.R)
      have SZ := Lib.hid (size_any P6.out.R)
      rw [show ((cn * 128 : Nat) : Int) = 128 * (cn : Int) by omega] at SZ
      go_wp2_with (first | (go_at_call 22; refine TA.out.mono ?_; rintro e w' ⟨rfl, rfl⟩) | (go_at_call 23; refine SZ.out.mono ?_; rintro e w' ⟨rfl, rfl⟩))
      exact ⟨RL.out, by simp [intOf]; omega⟩
    · obtain rfl : j = L.length := by omega
      clear J3
      go_wp2_with fail
      go_ret
      exact ⟨rfl, PP.out.be⟩
end Go.Proofs.Ytllnaocnojhlkaa.Dk
