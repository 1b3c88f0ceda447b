/- The parser's number. -/
import Derived.Test.YthfjahagmfgfeaaGreatDoorG8
import Derived.Test.YthfjahagmfgfeaaGreatDoorG5
namespace Go.Proofs.YthfjahagmfgfeaaGreatDoor.Wi
open Go Go.RowKit
set_option linter.unusedVariables false
set_option linter.unusedSimpArgs false
def isDg (c : UInt8) : Bool := decide (48 ≤ c.toNat ∧ c.toNat ≤ 57)
/-- Where the digits from k on end. -/
def dgE (l : List UInt8) (k : Nat) : Nat := k + ((l.drop k).takeWhile isDg).length
theorem dgE_at {l : List UInt8} {k : Nat} {c : UInt8} (h : l[k]? = some c) : dgE l k = if isDg c = true then dgE l (k + 1) else k := by
  have hk : k < l.length := (List.getElem?_eq_some_iff.1 h).1
  have e : l.drop k = c :: l.drop (k + 1) := by
    rw [List.drop_eq_getElem_cons hk]
    congr 1
    exact (List.getElem?_eq_some_iff.1 h).2
  unfold dgE
  rw [e, List.takeWhile_cons]
  by_cases hc : isDg c = true
  · rw [if_pos hc, if_pos hc, List.length_cons]; omega
  · rw [if_neg hc, if_neg hc]; rfl
theorem dgE_end {l : List UInt8} {k : Nat} (h : l.length ≤ k) : dgE l k = k := by
  unfold dgE
  rw [List.drop_eq_nil_of_le h]; rfl
theorem dgE_le {l : List UInt8} {k : Nat} (h : k ≤ l.length) : dgE l k ≤ l.length := by
  unfold dgE
  have h1 := (List.takeWhile_prefix (l := l.drop k) isDg).length_le
  rw [List.length_drop] at h1
  omega
theorem dgE_ge (l : List UInt8) (k : Nat) : k ≤ dgE l k := Nat.le_add_right _ _
def nuQ (ds : List UInt8) (e : Int) : Int × Int := match Lib.parseIntB 64 ds with
  | .ok v => (v, if Lib.itoa v = ds then e else fe e 8)
  | .syntax => (0, fe e 8)
  | .range => (Lib.intSat 64 ds, fe e 8)
/-- What number tells: the number, how far, the error. -/
def nuV (l : List UInt8) (k : Nat) (e : Int) : Int × Nat × Int :=
  let k2 := dgE l (tkN [45] l k)
  let Q := nuQ ((l.take k2).drop k) e
  (Q.1, k2, Q.2)
/-- What of the memory's base is needed. -/
def GB (B : Nat) (w : World) : Prop := Lib.TabBelow Tryz.prog B w "internal/strconv.uint64pow10" .u64 Lib.pow10Tab ∧ ∀ w', Below B w w' → (∃ tp p, w'.var? Tryz.prog "strconv.ErrSyntax" = some #[.iface tp p]) ∧ (∃ tp p, w'.var? Tryz.prog "strconv.ErrRange" = some #[.iface tp p])
theorem GB.on {B : Nat} {w w' : World} (h : GB B w) (hb : Below B w w') : GB B w' := ⟨h.1.on hb, fun w2 h2 => h.2 w2 (hb.trans h2)⟩
theorem below_growV (w : World) (n : Nat) (os : Array Obj) : Below w.heap.size w (Sort.grow (w.drewN n) os) :=
  ⟨rfl, rfl, rfl, by simp [Sort.grow], fun k hk => by simp [Sort.grow, Array.getElem?_append, hk]⟩
theorem nu_ge (l : List UInt8) (k0 : Nat) : k0 ≤ dgE l (tkN [45] l k0) := by
  have h1 := dgE_ge l (tkN [45] l k0)
  have h2 : k0 ≤ tkN [45] l k0 := by unfold tkN; split <;> omega
  omega
theorem below_bwV (w : World) (e : TypeId) (s : ByteArray) : Below w.heap.size w (Lib.bytesWorld w e s) := ⟨rfl, rfl, rfl, by rw [Lib.bytesWorld_size]; omega, fun j hj => Lib.bytesWorld_at_old w e s j hj⟩
theorem pib_fits {l : List UInt8} {v : Int} (h : Lib.parseIntB 64 l = .ok v) : -9223372036854775808 ≤ v ∧ v ≤ 9223372036854775807 := by
  cases l with
  | nil => simp [Lib.parseIntB] at h
  | cons c r =>
    rw [Lib.parseIntB] at h
    split at h
    · cases h
    · cases h
    · rename_i u _
      split at h
      · cases h
      · split at h
        · cases h
        · injection h with h
          subst h
          split <;> omega
def nuRel (w : World) (b : Nat) (l : List UInt8) (k2 : Nat) (e : Int) (wr : World) : Prop := ∃ k : Nat, k ≤ l.length ∧ dgE l k = k2 ∧ PS wr b l k e ∧ Fr w wr b none
def NuPost (w : World) (b : Nat) (l : List UInt8) (X : Int × Nat × Int) (en : Ending) (w' : World) : Prop := en = .returned (.int .i64 X.1) ∧ PS w' b l X.2.1 X.2.2 ∧ Fr w w' b none
set_option maxHeartbeats 16000000 in
set_option maxRecDepth 100000 in
theorem pnumber_any {w : World} {b : Nat} {l : List UInt8} {k0 : Nat} {e : Int} (h : PS w b l k0 e) (hk : k0 ≤ l.length) (hl : l.length ≤ 1000000000) {B : Nat} (hg : GB B w) (hBw : B ≤ w.heap.size) (hBb : B ≤ b) :
    Calls Tryz.prog 90 #[.pointer (some ⟨b, 0, none⟩)] w (NuPost w b l (nuV l k0 e)) := by
  have HG := Lib.hid hg
  have HBw := Lib.hid hBw
  have HBb := Lib.hid hBb
  clear hg hBw hBb
  have c1 := h.c1
  have TK := Lib.hid (ptake_any h hk (by omega) [45])
  have hk1 := tkN_le (p := [45]) hk
  obtain ⟨Z, hZ⟩ : ∃ Z, Z = nuV l k0 e := ⟨_, rfl⟩
  rw [← hZ]
  unfold nuV at hZ
  dsimp only at hZ
  obtain ⟨k1, hk1q⟩ : ∃ k1, k1 = tkN [45] l k0 := ⟨_, rfl⟩
  obtain ⟨T, hT⟩ : ∃ T, T = tkV [45] l k0 := ⟨_, rfl⟩
  rw [← hk1q] at TK hZ hk1
  rw [← hT] at TK
  obtain ⟨k2, hk2⟩ : ∃ k2, k2 = dgE l k1 := ⟨_, rfl⟩
  rw [← hk2] at hZ
  have HZ := Lib.hid hZ
  have HK1 := Lib.hid hk1
  have HK02 := Lib.hid (show k0 ≤ k2 by rw [hk2, hk1q]; exact nu_ge l k0)
  have HK2L := Lib.hid (show k2 ≤ l.length by rw [hk2]; exact dgE_le hk1)
  have HK2 := Lib.hid hk2
  have HT := Lib.hid hT
  obtain ⟨S, hS⟩ : ∃ S, S = str l := ⟨_, rfl⟩
  have hz := str_sizeX l
  have hat : ∀ (j : Nat) (c : UInt8), l[j]? = some c → ∀ h : j < (str l).size, (str l)[j]'h = c := fun j c hc h => by
    rw [Lib.getD_at (str l) j h, show (str l).data.toList = l from by simp [str], List.getD, hc]; rfl
  rw [← hS] at hz hat
  have HS := Lib.hid hS
  have HAT := Lib.hid hat
  clear h hZ hk1 hk2 hT hk1q hS hat
  go_enter Tryz.func90, Tryz.ntmps90
  go_upto_region 2 with fail
  go_wp2_with fail
  refine TK.out.mono ?_
  rintro en w1 ⟨rfl, hp1, hf1⟩
  have R0 := Lib.hid (show nuRel w b l k2 e w1 from ⟨k1, HK1.out, HK2.out.symm, hp1, hf1⟩)
  clear hp1 hf1 TK c1
  go_wp2_with fail
  go_loopw [] (fun wr => nuRel w b l k2 e wr) (fun wr => l.length - kOf wr b)
  case atStart => exact R0.out
  case round =>
    obtain ⟨wq, rfl⟩ : ∃ wq : World, wq = wr := ⟨_, rfl⟩
    obtain ⟨k, hkl, hke, hP, hF⟩ := hrel
    rw [hP.kOf]
    have c0 := hP.c0
    have c1 := hP.c1
    rw [← HS.out] at c0
    have HP := Lib.hid hP
    have HF := Lib.hid hF
    clear hP hF R0
    by_cases h1 : k < l.length
    · obtain ⟨c, hc⟩ : ∃ c, l[k]? = some c := ⟨_, List.getElem?_eq_getElem h1⟩
      have hd := dgE_at hc
      have hcc := HAT.out k c hc
      obtain ⟨m, hm⟩ : ∃ m : Nat, m = c.toNat := ⟨_, rfl⟩
      have hcm : ∀ h : k < S.size, (S[k]'h).toNat = m := fun h => by rw [hcc h]; exact hm.symm
      have hdg : isDg c = decide (48 ≤ m ∧ m ≤ 57) := by rw [isDg, ← hm]
      rw [hdg, hke] at hd
      have HD := Lib.hid hd
      have q1 : (k : Int) < (l.length : Int) := by omega
      have q2 : (k : Int) < (S.size : Int) := by omega
      have q0 : (0 : Int) ≤ (k : Int) := by omega
      have d1 : decide ((k : Int) < (l.length : Int)) = true := decide_eq_true q1
      clear hcc hc hm hdg hd
      by_cases h2 : 48 ≤ m
      · have d2 : decide ((48 : Int) ≤ (m : Int)) = true := decide_eq_true (by omega)
        by_cases h3 : m ≤ 57
        · have d3 : decide ((m : Int) ≤ (57 : Int)) = true := decide_eq_true (by omega)
          go_upto_region 3 with fail
          go_quiet (fail)
          have HP2 := Lib.hid (show PS (wq.drewN nq) b l k e from HP.out)
          have HF2 := Lib.hid (show Fr w (wq.drewN nq) b none from HF.out.drewN nq)
          obtain ⟨wg, hwg⟩ : ∃ wg, wg = wq.drewN nq := ⟨_, rfl⟩
          rw [← hwg] at HP2 HF2 ⊢
          have e1 := HP2.out.c1
          have f1 := HP2.out.fz 1
          have ek : (k : Int) + 1 = ((k + 1 : Nat) : Int) := rfl
          have b1 : -9223372036854775808 ≤ (k : Int) + 1 ∧ (k : Int) + 1 ≤ 9223372036854775807 := by omega
          obtain ⟨w2, hw2⟩ : ∃ w2, w2 = wg.setCell ⟨b, 1, none⟩ (.int .i64 ((k : Int) + 1)) := ⟨_, rfl⟩
          have hp2 : PS w2 b l (k + 1) e := by rw [hw2, ek]; exact HP2.out.setAt (k + 1)
          have RL := Lib.hid (show nuRel w b l k2 e w2 from ⟨k + 1, h1, by have := HD.out; rw [if_pos (decide_eq_true ⟨h2, h3⟩)] at this; exact this.symm, hp2, by rw [hw2]; exact HF2.out.set 1 _⟩)
          have HM := Lib.hid (show l.length - kOf w2 b < l.length - k by rw [hp2.kOf]; omega)
          have HW2 := Lib.hid hw2
          clear hwg hw2 hp2 c0 c1 ek
          go_wp2_with fail
          rw [← HW2.out]
          exact ⟨RL.out, HM.out⟩
        · have d3 : decide ((m : Int) ≤ (57 : Int)) = false := decide_eq_false (by omega)
          have hke2 := HD.out
          rw [if_neg (by rw [decide_eq_false (fun h => h3 h.2)]; decide)] at hke2
          subst hke2
          go_upto_region 3 with fail
          go_quiet (fail)
          have HPZ := Lib.hid (show PS (wq.drewN nq) b l k2 e from HP.out)
          have HFZ := Lib.hid (show Fr w (wq.drewN nq) b none from HF.out.drewN nq)
          obtain ⟨wz, hwz⟩ : ∃ wz, wz = wq.drewN nq := ⟨_, rfl⟩
          rw [← hwz] at HPZ HFZ ⊢
          clear hwz c0 c1
          obtain ⟨ds, hds⟩ : ∃ ds, ds = (l.take k2).drop k0 := ⟨_, rfl⟩
          obtain ⟨SD, hSD⟩ : ∃ SD, SD = str ds := ⟨_, rfl⟩
          have hex : S.extract k0 k2 = SD := by rw [HS.out, str_extractV, hSD, hds]
          have d0 := HPZ.out.c0
          rw [← HS.out] at d0
          have d1 := HPZ.out.c1
          have hk20 : k0 ≤ k2 := HK02.out
          have hk2l : k2 ≤ l.length := HK2L.out
          have z0 : (0 : Int) ≤ (k0 : Int) := by omega
          have z1 : (k0 : Int) ≤ (k2 : Int) := by omega
          have z2 : (k2 : Int) ≤ (S.size : Int) := by omega
          have z3 : (k2 : Int) ≤ (l.length : Int) := by omega
          have z4 : ¬ l.length < k2 := by omega
          have hz := HZ.out
          rw [← hds] at hz
          have HZ2 := Lib.hid hz
          have hdl : ds.length ≤ 1000000000 := by rw [hds, List.length_drop, List.length_take]; omega
          have HDL := Lib.hid hdl
          have HSD := Lib.hid hSD
          clear hz hds hSD hdl
          go_upto_region 5 with fail
          go_quiet (fail)
          obtain ⟨wg, hwg⟩ : ∃ wg, wg = wz.drewN nq := ⟨_, rfl⟩
          rw [← hwg]
          have HPG := Lib.hid (show PS wg b l k2 e by rw [hwg]; exact HPZ.out)
          have HFG := Lib.hid (show Fr w wg b none by rw [hwg]; exact HFZ.out.drewN nq)
          have HGB := Lib.hid (HG.out.on (HFG.out.below HBw.out HBb.out (fun g hg => by cases hg)))
          clear hwg hex d0 d1 hk20 hk2l z0 z1 z2 z3 z4
          rcases hp : Lib.parseIntB 64 ds with v | _ | _
          · have hvb := pib_fits hp
            have PI := Lib.hid (Tryz.strconv_ParseInt_10_at64_ok SD (by rw [HSD.out, str_sizeX]; have := HDL.out; omega) v (by rw [HSD.out, show (str ds).data.toList = ds by simp [str]]; exact hp) wg)
            have hz := HZ2.out
            rw [nuQ, hp] at hz
            dsimp only at hz
            have HZ3 := Lib.hid hz
            clear hz
            go_wp2_with fail
            refine PI.out.mono ?_
            rintro en w5 ⟨rfl, hw5⟩
            have hb5 : Below wg.heap.size wg w5 := by
              rcases hw5 with rfl | ⟨t, rfl⟩
              · exact Below.refl _ _
              · exact below_bwV _ _ _
            have HP5 := Lib.hid (HPG.out.keep (hb5.block b HPG.out.lt))
            have HF5 := Lib.hid (show Fr w w5 b none from HFG.out.trans (Or.inl rfl) (below_frZ hb5 b))
            have FI := Lib.hid (Tryz.strconv_FormatInt_10 v hvb.1 hvb.2 w5 ((HGB.out.on (hb5.mono (Nat.le_trans HBw.out HFG.out.size))).1.here))
            obtain ⟨SI, hSI⟩ : ∃ SI, SI = str (Lib.itoa v) := ⟨_, rfl⟩
            obtain ⟨q, hq⟩ : ∃ q, q = !decide (Lib.itoa v = ds) := ⟨_, rfl⟩
            have hbq := beq_strV (Lib.itoa v) ds
            rw [← hSI, ← HSD.out] at hbq
            have FI2 := Lib.hid (show Calls Tryz.prog 109 #[.int .i64 v, .int .i64 10] w5 fun e w' => e = .returned (.string SI) ∧ Below w5.heap.size w5 w' by
              rw [hSI]
              refine FI.out.mono ?_
              rintro en w' ⟨rfl, kk, os, rfl⟩
              exact ⟨rfl, below_growV w5 kk os⟩)
            have HBQ := show (!(SI.toList == SD.toList)) = q by rw [hbq, hq]
            have HZ4 := Lib.hid (show Z = (v, k2, if q = false then e else fe e 8) by
              rw [HZ3.out, hq]
              by_cases h : Lib.itoa v = ds
              · rw [if_pos h, if_pos (by rw [decide_eq_true h]; rfl)]
              · rw [if_neg h, if_neg (by rw [decide_eq_false h]; decide)])
            clear hb5 hw5 FI hSI hq hbq hvb
            go_wp2_with fail
            refine FI2.out.mono ?_
            rintro en w6 ⟨rfl, hb6⟩
            have HP6 := Lib.hid (HP5.out.keep (hb6.block b HP5.out.lt))
            have HF6 := Lib.hid (show Fr w w6 b none from HF5.out.trans (Or.inl rfl) (below_frZ hb6 b))
            clear hb6
            cases q
            · have RL := Lib.hid (show NuPost w b l Z (.returned (.int .i64 v)) w6 from by rw [HZ4.out]; exact ⟨rfl, HP6.out, HF6.out⟩)
              go_wp2_with fail
              go_ret
              exact RL.out
            · have PF := Lib.hid (pfail_any HP6.out 8)
              go_wp2_with fail
              refine PF.out.mono ?_
              rintro en w7 ⟨rfl, hp7, hf7⟩
              have RL := Lib.hid (show NuPost w b l Z (.returned (.int .i64 v)) w7 from by rw [HZ4.out]; exact ⟨rfl, hp7, HF6.out.trans (Or.inl rfl) hf7⟩)
              clear hp7 hf7
              go_wp2_with fail
              go_ret
              exact RL.out
          · obtain ⟨tp, pv, hvar⟩ := (HGB.out.2 wg (Below.refl _ _)).1
            have PI := Lib.hid (Tryz.strconv_ParseInt_10_at64_syntax_var SD (by rw [HSD.out, str_sizeX]; have := HDL.out; omega) (by rw [HSD.out, show (str ds).data.toList = ds by simp [str]]; exact hp) tp pv wg hvar)
            have hz := HZ2.out
            rw [nuQ, hp] at hz
            dsimp only at hz
            have HZ3 := Lib.hid hz
            obtain ⟨vv, hvv⟩ : ∃ vv : Int, vv = 0 := ⟨_, rfl⟩
            rw [← hvv] at PI HZ3
            clear hz hvar hvv
            go_wp2_with fail
            refine PI.out.mono ?_
            rintro en w5 ⟨NN, rfl, _, _, hb5⟩
            have HP5 := Lib.hid (HPG.out.keep (hb5.block b HPG.out.lt))
            have HF5 := Lib.hid (show Fr w w5 b none from HFG.out.trans (Or.inl rfl) (below_frZ hb5 b))
            have PF := Lib.hid (pfail_any HP5.out 8)
            clear hb5
            go_wp2_with fail
            refine PF.out.mono ?_
            rintro en w7 ⟨rfl, hp7, hf7⟩
            have RL := Lib.hid (show NuPost w b l Z (.returned (.int .i64 vv)) w7 from by rw [HZ3.out]; exact ⟨rfl, hp7, HF5.out.trans (Or.inl rfl) hf7⟩)
            clear hp7 hf7
            go_wp2_with fail
            go_ret
            exact RL.out
          · obtain ⟨tp, pv, hvar⟩ := (HGB.out.2 wg (Below.refl _ _)).2
            have PI := Lib.hid (Tryz.strconv_ParseInt_10_at64_range_var SD (by rw [HSD.out, str_sizeX]; have := HDL.out; omega) (by rw [HSD.out, show (str ds).data.toList = ds by simp [str]]; exact hp) tp pv wg hvar)
            rw [show SD.data.toList = ds by rw [HSD.out]; simp [str]] at PI
            have hz := HZ2.out
            rw [nuQ, hp] at hz
            dsimp only at hz
            have HZ3 := Lib.hid hz
            obtain ⟨vv, hvv⟩ : ∃ vv : Int, vv = Lib.intSat 64 ds := ⟨_, rfl⟩
            rw [← hvv] at PI HZ3
            clear hz hvar hvv
            go_wp2_with fail
            refine PI.out.mono ?_
            rintro en w5 ⟨NN, rfl, _, _, hb5⟩
            have HP5 := Lib.hid (HPG.out.keep (hb5.block b HPG.out.lt))
            have HF5 := Lib.hid (show Fr w w5 b none from HFG.out.trans (Or.inl rfl) (below_frZ hb5 b))
            have PF := Lib.hid (pfail_any HP5.out 8)
            clear hb5
            go_wp2_with fail
            refine PF.out.mono ?_
            rintro en w7 ⟨rfl, hp7, hf7⟩
            have RL := Lib.hid (show NuPost w b l Z (.returned (.int .i64 vv)) w7 from by rw [HZ3.out]; exact ⟨rfl, hp7, HF5.out.trans (Or.inl rfl) hf7⟩)
            clear hp7 hf7
            go_wp2_with fail
            go_ret
            exact RL.out
      · have d2 : decide ((48 : Int) ≤ (m : Int)) = false := decide_eq_false (by omega)
        have hke2 := HD.out
        rw [if_neg (by rw [decide_eq_false (fun h => h2 h.1)]; decide)] at hke2
        subst hke2
        go_upto_region 3 with fail
        go_quiet (fail)
        have HPZ := Lib.hid (show PS (wq.drewN nq) b l k2 e from HP.out)
        have HFZ := Lib.hid (show Fr w (wq.drewN nq) b none from HF.out.drewN nq)
        obtain ⟨wz, hwz⟩ : ∃ wz, wz = wq.drewN nq := ⟨_, rfl⟩
        rw [← hwz] at HPZ HFZ ⊢
        clear hwz c0 c1
        obtain ⟨ds, hds⟩ : ∃ ds, ds = (l.take k2).drop k0 := ⟨_, rfl⟩
        obtain ⟨SD, hSD⟩ : ∃ SD, SD = str ds := ⟨_, rfl⟩
        have hex : S.extract k0 k2 = SD := by rw [HS.out, str_extractV, hSD, hds]
        have d0 := HPZ.out.c0
        rw [← HS.out] at d0
        have d1 := HPZ.out.c1
        have hk20 : k0 ≤ k2 := HK02.out
        have hk2l : k2 ≤ l.length := HK2L.out
        have z0 : (0 : Int) ≤ (k0 : Int) := by omega
        have z1 : (k0 : Int) ≤ (k2 : Int) := by omega
        have z2 : (k2 : Int) ≤ (S.size : Int) := by omega
        have z3 : (k2 : Int) ≤ (l.length : Int) := by omega
        have z4 : ¬ l.length < k2 := by omega
        have hz := HZ.out
        rw [← hds] at hz
        have HZ2 := Lib.hid hz
        have hdl : ds.length ≤ 1000000000 := by rw [hds, List.length_drop, List.length_take]; omega
        have HDL := Lib.hid hdl
        have HSD := Lib.hid hSD
        clear hz hds hSD hdl
        go_upto_region 5 with fail
        go_quiet (fail)
        obtain ⟨wg, hwg⟩ : ∃ wg, wg = wz.drewN nq := ⟨_, rfl⟩
        rw [← hwg]
        have HPG := Lib.hid (show PS wg b l k2 e by rw [hwg]; exact HPZ.out)
        have HFG := Lib.hid (show Fr w wg b none by rw [hwg]; exact HFZ.out.drewN nq)
        have HGB := Lib.hid (HG.out.on (HFG.out.below HBw.out HBb.out (fun g hg => by cases hg)))
        clear hwg hex d0 d1 hk20 hk2l z0 z1 z2 z3 z4
        rcases hp : Lib.parseIntB 64 ds with v | _ | _
        · have hvb := pib_fits hp
          have PI := Lib.hid (Tryz.strconv_ParseInt_10_at64_ok SD (by rw [HSD.out, str_sizeX]; have := HDL.out; omega) v (by rw [HSD.out, show (str ds).data.toList = ds by simp [str]]; exact hp) wg)
          have hz := HZ2.out
          rw [nuQ, hp] at hz
          dsimp only at hz
          have HZ3 := Lib.hid hz
          clear hz
          go_wp2_with fail
          refine PI.out.mono ?_
          rintro en w5 ⟨rfl, hw5⟩
          have hb5 : Below wg.heap.size wg w5 := by
            rcases hw5 with rfl | ⟨t, rfl⟩
            · exact Below.refl _ _
            · exact below_bwV _ _ _
          have HP5 := Lib.hid (HPG.out.keep (hb5.block b HPG.out.lt))
          have HF5 := Lib.hid (show Fr w w5 b none from HFG.out.trans (Or.inl rfl) (below_frZ hb5 b))
          have FI := Lib.hid (Tryz.strconv_FormatInt_10 v hvb.1 hvb.2 w5 ((HGB.out.on (hb5.mono (Nat.le_trans HBw.out HFG.out.size))).1.here))
          obtain ⟨SI, hSI⟩ : ∃ SI, SI = str (Lib.itoa v) := ⟨_, rfl⟩
          obtain ⟨q, hq⟩ : ∃ q, q = !decide (Lib.itoa v = ds) := ⟨_, rfl⟩
          have hbq := beq_strV (Lib.itoa v) ds
          rw [← hSI, ← HSD.out] at hbq
          have FI2 := Lib.hid (show Calls Tryz.prog 109 #[.int .i64 v, .int .i64 10] w5 fun e w' => e = .returned (.string SI) ∧ Below w5.heap.size w5 w' by
            rw [hSI]
            refine FI.out.mono ?_
            rintro en w' ⟨rfl, kk, os, rfl⟩
            exact ⟨rfl, below_growV w5 kk os⟩)
          have HBQ := show (!(SI.toList == SD.toList)) = q by rw [hbq, hq]
          have HZ4 := Lib.hid (show Z = (v, k2, if q = false then e else fe e 8) by
            rw [HZ3.out, hq]
            by_cases h : Lib.itoa v = ds
            · rw [if_pos h, if_pos (by rw [decide_eq_true h]; rfl)]
            · rw [if_neg h, if_neg (by rw [decide_eq_false h]; decide)])
          clear hb5 hw5 FI hSI hq hbq hvb
          go_wp2_with fail
          refine FI2.out.mono ?_
          rintro en w6 ⟨rfl, hb6⟩
          have HP6 := Lib.hid (HP5.out.keep (hb6.block b HP5.out.lt))
          have HF6 := Lib.hid (show Fr w w6 b none from HF5.out.trans (Or.inl rfl) (below_frZ hb6 b))
          clear hb6
          cases q
          · have RL := Lib.hid (show NuPost w b l Z (.returned (.int .i64 v)) w6 from by rw [HZ4.out]; exact ⟨rfl, HP6.out, HF6.out⟩)
            go_wp2_with fail
            go_ret
            exact RL.out
          · have PF := Lib.hid (pfail_any HP6.out 8)
            go_wp2_with fail
            refine PF.out.mono ?_
            rintro en w7 ⟨rfl, hp7, hf7⟩
            have RL := Lib.hid (show NuPost w b l Z (.returned (.int .i64 v)) w7 from by rw [HZ4.out]; exact ⟨rfl, hp7, HF6.out.trans (Or.inl rfl) hf7⟩)
            clear hp7 hf7
            go_wp2_with fail
            go_ret
            exact RL.out
        · obtain ⟨tp, pv, hvar⟩ := (HGB.out.2 wg (Below.refl _ _)).1
          have PI := Lib.hid (Tryz.strconv_ParseInt_10_at64_syntax_var SD (by rw [HSD.out, str_sizeX]; have := HDL.out; omega) (by rw [HSD.out, show (str ds).data.toList = ds by simp [str]]; exact hp) tp pv wg hvar)
          have hz := HZ2.out
          rw [nuQ, hp] at hz
          dsimp only at hz
          have HZ3 := Lib.hid hz
          obtain ⟨vv, hvv⟩ : ∃ vv : Int, vv = 0 := ⟨_, rfl⟩
          rw [← hvv] at PI HZ3
          clear hz hvar hvv
          go_wp2_with fail
          refine PI.out.mono ?_
          rintro en w5 ⟨NN, rfl, _, _, hb5⟩
          have HP5 := Lib.hid (HPG.out.keep (hb5.block b HPG.out.lt))
          have HF5 := Lib.hid (show Fr w w5 b none from HFG.out.trans (Or.inl rfl) (below_frZ hb5 b))
          have PF := Lib.hid (pfail_any HP5.out 8)
          clear hb5
          go_wp2_with fail
          refine PF.out.mono ?_
          rintro en w7 ⟨rfl, hp7, hf7⟩
          have RL := Lib.hid (show NuPost w b l Z (.returned (.int .i64 vv)) w7 from by rw [HZ3.out]; exact ⟨rfl, hp7, HF5.out.trans (Or.inl rfl) hf7⟩)
          clear hp7 hf7
          go_wp2_with fail
          go_ret
          exact RL.out
        · obtain ⟨tp, pv, hvar⟩ := (HGB.out.2 wg (Below.refl _ _)).2
          have PI := Lib.hid (Tryz.strconv_ParseInt_10_at64_range_var SD (by rw [HSD.out, str_sizeX]; have := HDL.out; omega) (by rw [HSD.out, show (str ds).data.toList = ds by simp [str]]; exact hp) tp pv wg hvar)
          rw [show SD.data.toList = ds by rw [HSD.out]; simp [str]] at PI
          have hz := HZ2.out
          rw [nuQ, hp] at hz
          dsimp only at hz
          have HZ3 := Lib.hid hz
          obtain ⟨vv, hvv⟩ : ∃ vv : Int, vv = Lib.intSat 64 ds := ⟨_, rfl⟩
          rw [← hvv] at PI HZ3
          clear hz hvar hvv
          go_wp2_with fail
          refine PI.out.mono ?_
          rintro en w5 ⟨NN, rfl, _, _, hb5⟩
          have HP5 := Lib.hid (HPG.out.keep (hb5.block b HPG.out.lt))
          have HF5 := Lib.hid (show Fr w w5 b none from HFG.out.trans (Or.inl rfl) (below_frZ hb5 b))
          have PF := Lib.hid (pfail_any HP5.out 8)
          clear hb5
          go_wp2_with fail
          refine PF.out.mono ?_
          rintro en w7 ⟨rfl, hp7, hf7⟩
          have RL := Lib.hid (show NuPost w b l Z (.returned (.int .i64 vv)) w7 from by rw [HZ3.out]; exact ⟨rfl, hp7, HF5.out.trans (Or.inl rfl) hf7⟩)
          clear hp7 hf7
          go_wp2_with fail
          go_ret
          exact RL.out
    · have d1 : decide ((k : Int) < (l.length : Int)) = false := decide_eq_false (by omega)
      have hke2 := dgE_end (l := l) (k := k) (by omega)
      rw [hke] at hke2
      subst hke2
      go_upto_region 3 with fail
      go_quiet (fail)
      have HPZ := Lib.hid (show PS (wq.drewN nq) b l k2 e from HP.out)
      have HFZ := Lib.hid (show Fr w (wq.drewN nq) b none from HF.out.drewN nq)
      obtain ⟨wz, hwz⟩ : ∃ wz, wz = wq.drewN nq := ⟨_, rfl⟩
      rw [← hwz] at HPZ HFZ ⊢
      clear hwz c0 c1
      obtain ⟨ds, hds⟩ : ∃ ds, ds = (l.take k2).drop k0 := ⟨_, rfl⟩
      obtain ⟨SD, hSD⟩ : ∃ SD, SD = str ds := ⟨_, rfl⟩
      have hex : S.extract k0 k2 = SD := by rw [HS.out, str_extractV, hSD, hds]
      have d0 := HPZ.out.c0
      rw [← HS.out] at d0
      have d1 := HPZ.out.c1
      have hk20 : k0 ≤ k2 := HK02.out
      have hk2l : k2 ≤ l.length := HK2L.out
      have z0 : (0 : Int) ≤ (k0 : Int) := by omega
      have z1 : (k0 : Int) ≤ (k2 : Int) := by omega
      have z2 : (k2 : Int) ≤ (S.size : Int) := by omega
      have z3 : (k2 : Int) ≤ (l.length : Int) := by omega
      have z4 : ¬ l.length < k2 := by omega
      have hz := HZ.out
      rw [← hds] at hz
      have HZ2 := Lib.hid hz
      have hdl : ds.length ≤ 1000000000 := by rw [hds, List.length_drop, List.length_take]; omega
      have HDL := Lib.hid hdl
      have HSD := Lib.hid hSD
      clear hz hds hSD hdl
      go_upto_region 5 with fail
      go_quiet (fail)
      obtain ⟨wg, hwg⟩ : ∃ wg, wg = wz.drewN nq := ⟨_, rfl⟩
      rw [← hwg]
      have HPG := Lib.hid (show PS wg b l k2 e by rw [hwg]; exact HPZ.out)
      have HFG := Lib.hid (show Fr w wg b none by rw [hwg]; exact HFZ.out.drewN nq)
      have HGB := Lib.hid (HG.out.on (HFG.out.below HBw.out HBb.out (fun g hg => by cases hg)))
      clear hwg hex d0 d1 hk20 hk2l z0 z1 z2 z3 z4
      rcases hp : Lib.parseIntB 64 ds with v | _ | _
      · have hvb := pib_fits hp
        have PI := Lib.hid (Tryz.strconv_ParseInt_10_at64_ok SD (by rw [HSD.out, str_sizeX]; have := HDL.out; omega) v (by rw [HSD.out, show (str ds).data.toList = ds by simp [str]]; exact hp) wg)
        have hz := HZ2.out
        rw [nuQ, hp] at hz
        dsimp only at hz
        have HZ3 := Lib.hid hz
        clear hz
        go_wp2_with fail
        refine PI.out.mono ?_
        rintro en w5 ⟨rfl, hw5⟩
        have hb5 : Below wg.heap.size wg w5 := by
          rcases hw5 with rfl | ⟨t, rfl⟩
          · exact Below.refl _ _
          · exact below_bwV _ _ _
        have HP5 := Lib.hid (HPG.out.keep (hb5.block b HPG.out.lt))
        have HF5 := Lib.hid (show Fr w w5 b none from HFG.out.trans (Or.inl rfl) (below_frZ hb5 b))
        have FI := Lib.hid (Tryz.strconv_FormatInt_10 v hvb.1 hvb.2 w5 ((HGB.out.on (hb5.mono (Nat.le_trans HBw.out HFG.out.size))).1.here))
        obtain ⟨SI, hSI⟩ : ∃ SI, SI = str (Lib.itoa v) := ⟨_, rfl⟩
        obtain ⟨q, hq⟩ : ∃ q, q = !decide (Lib.itoa v = ds) := ⟨_, rfl⟩
        have hbq := beq_strV (Lib.itoa v) ds
        rw [← hSI, ← HSD.out] at hbq
        have FI2 := Lib.hid (show Calls Tryz.prog 109 #[.int .i64 v, .int .i64 10] w5 fun e w' => e = .returned (.string SI) ∧ Below w5.heap.size w5 w' by
          rw [hSI]
          refine FI.out.mono ?_
          rintro en w' ⟨rfl, kk, os, rfl⟩
          exact ⟨rfl, below_growV w5 kk os⟩)
        have HBQ := show (!(SI.toList == SD.toList)) = q by rw [hbq, hq]
        have HZ4 := Lib.hid (show Z = (v, k2, if q = false then e else fe e 8) by
          rw [HZ3.out, hq]
          by_cases h : Lib.itoa v = ds
          · rw [if_pos h, if_pos (by rw [decide_eq_true h]; rfl)]
          · rw [if_neg h, if_neg (by rw [decide_eq_false h]; decide)])
        clear hb5 hw5 FI hSI hq hbq hvb
        go_wp2_with fail
        refine FI2.out.mono ?_
        rintro en w6 ⟨rfl, hb6⟩
        have HP6 := Lib.hid (HP5.out.keep (hb6.block b HP5.out.lt))
        have HF6 := Lib.hid (show Fr w w6 b none from HF5.out.trans (Or.inl rfl) (below_frZ hb6 b))
        clear hb6
        cases q
        · have RL := Lib.hid (show NuPost w b l Z (.returned (.int .i64 v)) w6 from by rw [HZ4.out]; exact ⟨rfl, HP6.out, HF6.out⟩)
          go_wp2_with fail
          go_ret
          exact RL.out
        · have PF := Lib.hid (pfail_any HP6.out 8)
          go_wp2_with fail
          refine PF.out.mono ?_
          rintro en w7 ⟨rfl, hp7, hf7⟩
          have RL := Lib.hid (show NuPost w b l Z (.returned (.int .i64 v)) w7 from by rw [HZ4.out]; exact ⟨rfl, hp7, HF6.out.trans (Or.inl rfl) hf7⟩)
          clear hp7 hf7
          go_wp2_with fail
          go_ret
          exact RL.out
      · obtain ⟨tp, pv, hvar⟩ := (HGB.out.2 wg (Below.refl _ _)).1
        have PI := Lib.hid (Tryz.strconv_ParseInt_10_at64_syntax_var SD (by rw [HSD.out, str_sizeX]; have := HDL.out; omega) (by rw [HSD.out, show (str ds).data.toList = ds by simp [str]]; exact hp) tp pv wg hvar)
        have hz := HZ2.out
        rw [nuQ, hp] at hz
        dsimp only at hz
        have HZ3 := Lib.hid hz
        obtain ⟨vv, hvv⟩ : ∃ vv : Int, vv = 0 := ⟨_, rfl⟩
        rw [← hvv] at PI HZ3
        clear hz hvar hvv
        go_wp2_with fail
        refine PI.out.mono ?_
        rintro en w5 ⟨NN, rfl, _, _, hb5⟩
        have HP5 := Lib.hid (HPG.out.keep (hb5.block b HPG.out.lt))
        have HF5 := Lib.hid (show Fr w w5 b none from HFG.out.trans (Or.inl rfl) (below_frZ hb5 b))
        have PF := Lib.hid (pfail_any HP5.out 8)
        clear hb5
        go_wp2_with fail
        refine PF.out.mono ?_
        rintro en w7 ⟨rfl, hp7, hf7⟩
        have RL := Lib.hid (show NuPost w b l Z (.returned (.int .i64 vv)) w7 from by rw [HZ3.out]; exact ⟨rfl, hp7, HF5.out.trans (Or.inl rfl) hf7⟩)
        clear hp7 hf7
        go_wp2_with fail
        go_ret
        exact RL.out
      · obtain ⟨tp, pv, hvar⟩ := (HGB.out.2 wg (Below.refl _ _)).2
        have PI := Lib.hid (Tryz.strconv_ParseInt_10_at64_range_var SD (by rw [HSD.out, str_sizeX]; have := HDL.out; omega) (by rw [HSD.out, show (str ds).data.toList = ds by simp [str]]; exact hp) tp pv wg hvar)
        rw [show SD.data.toList = ds by rw [HSD.out]; simp [str]] at PI
        have hz := HZ2.out
        rw [nuQ, hp] at hz
        dsimp only at hz
        have HZ3 := Lib.hid hz
        obtain ⟨vv, hvv⟩ : ∃ vv : Int, vv = Lib.intSat 64 ds := ⟨_, rfl⟩
        rw [← hvv] at PI HZ3
        clear hz hvar hvv
        go_wp2_with fail
        refine PI.out.mono ?_
        rintro en w5 ⟨NN, rfl, _, _, hb5⟩
        have HP5 := Lib.hid (HPG.out.keep (hb5.block b HPG.out.lt))
        have HF5 := Lib.hid (show Fr w w5 b none from HFG.out.trans (Or.inl rfl) (below_frZ hb5 b))
        have PF := Lib.hid (pfail_any HP5.out 8)
        clear hb5
        go_wp2_with fail
        refine PF.out.mono ?_
        rintro en w7 ⟨rfl, hp7, hf7⟩
        have RL := Lib.hid (show NuPost w b l Z (.returned (.int .i64 vv)) w7 from by rw [HZ3.out]; exact ⟨rfl, hp7, HF5.out.trans (Or.inl rfl) hf7⟩)
        clear hp7 hf7
        go_wp2_with fail
        go_ret
        exact RL.out
end Go.Proofs.YthfjahagmfgfeaaGreatDoor.Wi
/- The parser's theory, and its list. -/
namespace Go.Proofs.YthfjahagmfgfeaaGreatDoor.Wi
open Go Go.RowKit
set_option linter.unusedVariables false
set_option linter.unusedSimpArgs false
def paLoop (l : List UInt8) (F : Nat → Int → VT × Nat × Int) : Nat → Nat → Int → List VT × Nat × Int
  | 0, k, e => ([], k, e)
  | g + 1, k, e => if e ≠ 0 then ([], k, e) else if tkV [93] l (F k e).2.1 = true then ([(F k e).1], (F k e).2.1 + 1, (F k e).2.2)
    else if tkV [32] l (F k e).2.1 = true then ((F k e).1 :: (paLoop l F g ((F k e).2.1 + 1) (F k e).2.2).1, (paLoop l F g ((F k e).2.1 + 1) (F k e).2.2).2)
    else ((F k e).1 :: (paLoop l F g (F k e).2.1 (fe (F k e).2.2 8)).1, (paLoop l F g (F k e).2.1 (fe (F k e).2.2 8)).2)
def paL (l : List UInt8) (F : Nat → Int → VT × Nat × Int) (d k : Nat) (e : Int) : List VT × Nat × Int :=
  if tkV [93] l k = true then ([], k + 1, if 8 ≤ d then fe e 30 else e) else paLoop l F (2 * l.length + 3) k (if 8 ≤ d then fe e 30 else e)
/-- What is read as a value in d lists, from k on, with the error e; f lists are left. -/
def paV (l : List UInt8) : Nat → Nat → Nat → Int → VT × Nat × Int
  | 0, d, k, e => (.mk 0 0 [] none 0 [], k, e)
  | f + 1, d, k, e =>
    if tkV [110, 105, 108] l k = true then (.mk 0 0 [] none 0 [], k + 3, e)
    else if tkV [91] l k = true then (.mk 3 0 [] none 0 (paL l (paV l f (d + 1)) d (k + 1) e).1, (paL l (paV l f (d + 1)) d (k + 1) e).2)
    else if tkV [34] l k = true then (.mk 2 0 (tqV l (k + 1) e).1 none 0 [], (tqV l (k + 1) e).2)
    else (.mk 1 (nuV l k e).1 [] none 0 [], (nuV l k e).2)
/-- It goes on, and not too far. -/
def Goes (l : List UInt8) (k : Nat) (e : Int) (k' : Nat) (e' : Int) : Prop := k ≤ k' ∧ k' ≤ l.length ∧ mes l k' e' ≤ mes l k e
theorem Goes.trans {l : List UInt8} {k k1 k2 : Nat} {e e1 e2 : Int} (h : Goes l k e k1 e1) (h2 : Goes l k1 e1 k2 e2) : Goes l k e k2 e2 := ⟨Nat.le_trans h.1 h2.1, h2.2.1, Nat.le_trans h2.2.2 h.2.2⟩
theorem Goes.refl {l : List UInt8} {k : Nat} {e : Int} (h : k ≤ l.length) : Goes l k e k e := ⟨Nat.le_refl _, h, Nat.le_refl _⟩
theorem Goes.fail {l : List UInt8} {k : Nat} {e : Int} (h : k ≤ l.length) (a : Int) (ha : a ≠ 0) : Goes l k e k (fe e a) := ⟨Nat.le_refl _, h, fe_mes l k e a ha⟩
theorem tk_len {p l : List UInt8} {k : Nat} (hk : k ≤ l.length) (h : tkV p l k = true) : k + p.length ≤ l.length := by
  have := tkN_le (p := p) hk
  unfold tkN at this
  rwa [if_pos h] at this
theorem Goes.take {p l : List UInt8} {k : Nat} {e : Int} (hk : k ≤ l.length) (h : tkV p l k = true) : Goes l k e (k + p.length) e := by
  have := tk_len hk h
  refine ⟨Nat.le_add_right _ _, this, ?_⟩
  unfold mes
  omega
theorem chV_goes {l : List UInt8} {k : Nat} {e : Int} (hk : k ≤ l.length) : Goes l k e (chV l k e).2.1 (chV l k e).2.2 := by
  refine ⟨chV_ge l k e, chV_le hk, ?_⟩
  have h1 := nxV_mesle (e := e) hk
  have k1 := nxV_le (e := e) hk
  have h2 := nxV_mesle (l := l) (e := (nxV l k e).2.2) k1
  have k2 := nxV_le (l := l) (e := (nxV l k e).2.2) k1
  have h3 := hxV_mesle (l := l) (e := (nxV l (nxV l k e).2.1 (nxV l k e).2.2).2.2) k2
  have k3 := hxV_le (l := l) (e := (nxV l (nxV l k e).2.1 (nxV l k e).2.2).2.2) k2
  have h4 := hxV_mesle (l := l) (e := (hxV l (nxV l (nxV l k e).2.1 (nxV l k e).2.2).2.1 (nxV l (nxV l k e).2.1 (nxV l k e).2.2).2.2).2.2) k3
  unfold chV
  dsimp only
  split
  · exact h1
  · split
    · omega
    · dsimp only; omega
theorem txL_goes (l : List UInt8) : ∀ (f k : Nat) (e : Int) (acc : List UInt8), k ≤ l.length → Goes l k e (txL l f k e acc).2.1 (txL l f k e acc).2.2 := by
  intro f
  induction f with
  | zero => intro k e acc hk; exact Goes.refl hk
  | succ f ih =>
    intro k e acc hk
    rw [txL]
    by_cases h1 : e ≠ 0
    · rw [if_pos h1]; exact Goes.refl hk
    rw [if_neg h1]
    by_cases h2 : tkV [34] l k = true
    · rw [if_pos h2]; exact Goes.take hk h2
    · rw [if_neg h2]
      exact (chV_goes hk).trans (ih _ _ _ (chV_le hk))
theorem tqV_goes {l : List UInt8} {k : Nat} {e : Int} (hk : k ≤ l.length) : Goes l k e (tqV l k e).2.1 (tqV l k e).2.2 := by
  have h := txL_goes l (2 * l.length + 3) k e [] hk
  unfold tqV
  dsimp only
  split
  · exact h
  · exact h.trans (Goes.fail h.2.1 8 (by decide))
theorem nuV_goes {l : List UInt8} {k : Nat} {e : Int} (hk : k ≤ l.length) : Goes l k e (nuV l k e).2.1 (nuV l k e).2.2 := by
  have h1 := nu_ge l k
  have h2 := dgE_le (tkN_le (p := [45]) hk)
  have h3 : Goes l k e (dgE l (tkN [45] l k)) e := ⟨h1, h2, by unfold mes; omega⟩
  unfold nuV
  dsimp only
  refine h3.trans ?_
  unfold nuQ
  split
  · split
    · exact Goes.refl h2
    · exact Goes.fail h2 8 (by decide)
  · exact Goes.fail h2 8 (by decide)
  · exact Goes.fail h2 8 (by decide)
theorem paLoop_goes {l : List UInt8} {F : Nat → Int → VT × Nat × Int} (hF : ∀ k e, k ≤ l.length → Goes l k e (F k e).2.1 (F k e).2.2) : ∀ (g k : Nat) (e : Int), k ≤ l.length → Goes l k e (paLoop l F g k e).2.1 (paLoop l F g k e).2.2 := by
  intro g
  induction g with
  | zero => intro k e hk; exact Goes.refl hk
  | succ g ih =>
    intro k e hk
    rw [paLoop]
    by_cases h1 : e ≠ 0
    · rw [if_pos h1]; exact Goes.refl hk
    rw [if_neg h1]
    have hf := hF k e hk
    by_cases h2 : tkV [93] l (F k e).2.1 = true
    · rw [if_pos h2]; exact hf.trans (Goes.take hf.2.1 h2)
    rw [if_neg h2]
    by_cases h3 : tkV [32] l (F k e).2.1 = true
    · rw [if_pos h3]
      exact hf.trans ((Goes.take hf.2.1 h3).trans (ih _ _ (tk_len hf.2.1 h3)))
    · rw [if_neg h3]
      exact hf.trans ((Goes.fail hf.2.1 8 (by decide)).trans (ih _ _ hf.2.1))
theorem paL_goes {l : List UInt8} {F : Nat → Int → VT × Nat × Int} (hF : ∀ k e, k ≤ l.length → Goes l k e (F k e).2.1 (F k e).2.2) (d : Nat) {k : Nat} {e : Int} (hk : k ≤ l.length) : Goes l k e (paL l F d k e).2.1 (paL l F d k e).2.2 := by
  have h1 : Goes l k e k (if 8 ≤ d then fe e 30 else e) := by
    split
    · exact Goes.fail hk 30 (by decide)
    · exact Goes.refl hk
  unfold paL
  by_cases h2 : tkV [93] l k = true
  · rw [if_pos h2]; exact h1.trans (Goes.take hk h2)
  · rw [if_neg h2]; exact h1.trans (paLoop_goes hF _ _ _ hk)
theorem paV_goes (l : List UInt8) : ∀ (f d k : Nat) (e : Int), k ≤ l.length → Goes l k e (paV l f d k e).2.1 (paV l f d k e).2.2 := by
  intro f
  induction f with
  | zero => intro d k e hk; exact Goes.refl hk
  | succ f ih =>
    intro d k e hk
    rw [paV]
    by_cases h1 : tkV [110, 105, 108] l k = true
    · rw [if_pos h1]; exact Goes.take hk h1
    rw [if_neg h1]
    by_cases h2 : tkV [91] l k = true
    · rw [if_pos h2]
      exact (Goes.take hk h2).trans (paL_goes (fun k e h => ih (d + 1) k e h) d (tk_len hk h2))
    rw [if_neg h2]
    by_cases h3 : tkV [34] l k = true
    · rw [if_pos h3]
      exact (Goes.take hk h3).trans (tqV_goes (tk_len hk h3))
    · rw [if_neg h3]; exact nuV_goes hk
def PaPost (w : World) (b : Nat) (l : List UInt8) (X : VT × Nat × Int) (e : Ending) (w' : World) : Prop :=
  ∃ y : VT, e = .returned (.agg y.cells.toArray) ∧ y.nz = X.1 ∧ y.At w'.heap.size w' ∧ y.In (w.heap.size ≤ ·) ∧ PS w' b l X.2.1 X.2.2 ∧ Fr w w' b none
def PlPost (w : World) (b : Nat) (l : List UInt8) (X : List VT × Nat × Int) (e : Ending) (w' : World) : Prop :=
  ∃ ao c Y, e = .returned (.slice ao Y.length c) ∧ Y.map VT.nz = X.1 ∧ (∀ y ∈ Y, y.At w'.heap.size w' ∧ y.In (w.heap.size ≤ ·)) ∧ w'.ownsRow w.heap.size 24 4 (.slice ao Y.length c) Y.length (vcs Y) ∧ Y.length ≤ 2 * l.length + 3 ∧
    PS w' b l X.2.1 X.2.2 ∧ Fr w w' b none
def PaAny (f : Nat) : Prop := ∀ (d k : Nat) (e : Int) (w : World) (b B : Nat) (l : List UInt8), d + f = 9 → d ≤ 8 → k ≤ l.length → l.length ≤ 1000000000 → GB B w → B ≤ w.heap.size → B ≤ b → PS w b l k e →
  Calls Tryz.prog 62 #[.pointer (some ⟨b, 0, none⟩), .int .i64 (d : Int)] w (PaPost w b l (paV l f d k e))
def plRel (w : World) (b : Nat) (l : List UInt8) (F : Nat → Int → VT × Nat × Int) (d : Nat) (X : List VT × Nat × Int) (lv : Value) (wr : World) : Prop :=
  ∃ (Y : List VT) (ao : Option Addr) (c k g : Nat) (e : Int), lv = .slice ao Y.length c ∧ (e = 0 → d < 8) ∧ k ≤ l.length ∧ mes l k e < g ∧ Y.length + mes l k e ≤ 2 * l.length + 1 ∧
    X = (Y.map VT.nz ++ (paLoop l F g k e).1, (paLoop l F g k e).2) ∧ wr.ownsRow w.heap.size 24 4 (.slice ao Y.length c) Y.length (vcs Y) ∧
    (∀ y ∈ Y, y.At wr.heap.size wr ∧ y.In (w.heap.size ≤ ·) ∧ y.In (fun k => some k ≠ (Value.slice ao Y.length c).ownBlock)) ∧ PS wr b l k e ∧ Fr w wr b none
end Go.Proofs.YthfjahagmfgfeaaGreatDoor.Wi
/- The parser's list. -/
namespace Go.Proofs.YthfjahagmfgfeaaGreatDoor.Wi
open Go Go.RowKit
set_option linter.unusedVariables false
set_option linter.unusedSimpArgs false
theorem mes_step {l : List UInt8} {k vk : Nat} {ve : Int} (h : Goes l k 0 vk ve) (hv : vk + 1 ≤ l.length) : mes l (vk + 1) ve < mes l k 0 := by
  have h3 := h.2.2
  have e : mes l (vk + 1) ve + 2 = mes l vk ve := by unfold mes; omega
  omega
theorem mes_bad {l : List UInt8} {k vk : Nat} {ve : Int} (h : Goes l k 0 vk ve) : mes l vk (fe ve 8) < mes l k 0 := by
  have h1 := h.1
  have h3 := h.2.2
  unfold mes at h3 ⊢
  unfold fe
  rw [if_pos rfl] at h3 ⊢
  by_cases hv : ve = 0
  · rw [if_pos hv] at h3 ⊢
    rw [if_neg (by decide)]
    omega
  · rw [if_neg hv] at h3 ⊢
    rw [if_neg hv]
    omega
set_option maxHeartbeats 16000000 in
set_option maxRecDepth 100000 in
theorem plist_any (f : Nat) (ih : PaAny f) (d k0 : Nat) (e0 : Int) (w : World) (b B : Nat) (l : List UInt8) (hd : d + 1 + f = 9) (hk : k0 ≤ l.length) (hl : l.length ≤ 1000000000) (hg : GB B w) (hBw : B ≤ w.heap.size) (hBb : B ≤ b) (hP : PS w b l k0 e0) :
    Calls Tryz.prog 88 #[.pointer (some ⟨b, 0, none⟩), .int .i64 (d : Int)] w (PlPost w b l (paL l (paV l f (d + 1)) d k0 e0)) := by
  obtain ⟨i0, hi0, hz0, hz1, hz2⟩ := info_parts Tryz.infoVal
  have HI := Lib.hid (And.intro hi0 (And.intro hz0 (And.intro hz1 hz2)))
  clear hi0 hz0 hz1 hz2
  obtain ⟨e3, he3⟩ : ∃ e3, e3 = (if 8 ≤ d then fe e0 30 else e0) := ⟨_, rfl⟩
  have hed : e3 = 0 → d < 8 := fun h => by
    rw [he3] at h
    by_cases h8 : 8 ≤ d
    · rw [if_pos h8] at h
      exact absurd (fe_ok h).2 (by decide)
    · omega
  obtain ⟨X, hX⟩ : ∃ X, X = paL l (paV l f (d + 1)) d k0 e0 := ⟨_, rfl⟩
  rw [← hX]
  unfold paL at hX
  rw [← he3] at hX
  have hb := hP.lt
  have HX := Lib.hid hX
  have HE3 := Lib.hid he3
  have HED := Lib.hid hed
  have HP := Lib.hid hP
  have HG := Lib.hid hg
  have HBw := Lib.hid hBw
  have HBb := Lib.hid hBb
  have IH := Lib.hid ih
  have hd9 : d + 1 ≤ 9 := by omega
  clear hX he3 hed hP hg hBw hBb ih
  go_enter Tryz.func88, Tryz.ntmps88
  go_upto_if 7 with (fail)
  go_cut [] (fun wx => PS wx b l k0 e3 ∧ Fr w wx b none)
  case first =>
    by_cases h8 : 8 ≤ d
    · have h8' : (8 : Int) ≤ (d : Int) := by omega
      have HE := Lib.hid (HE3.out.trans (if_pos h8))
      have PF := Lib.hid (pfail_any HP.out 30)
      go_wp2_with fail
      refine PF.out.mono ?_
      rintro en w2 ⟨rfl, hp2, hf2⟩
      have RL := Lib.hid (show PS w2 b l k0 e3 ∧ Fr w w2 b none by rw [HE.out]; exact ⟨hp2, hf2⟩)
      clear hp2 hf2
      go_wp2_with fail
      go_meet
      all_goals exact RL.out
    · have h8' : ¬ (8 : Int) ≤ (d : Int) := by omega
      have HE := Lib.hid (HE3.out.trans (if_neg h8))
      go_wp2_with fail
      go_meet
      all_goals exact ⟨by rw [HE.out]; exact HP.out, Fr.refl _ _ _⟩
  case rest =>
    obtain ⟨hp2, hF2⟩ := hcut
    have TK := Lib.hid (ptake_any hp2 hk (by omega) [93])
    have HF2 := Lib.hid hF2
    clear hp2 hF2
    by_cases ht : tkV [93] l k0 = true
    · have hx := HX.out.trans (if_pos ht)
      rw [ht, show tkN [93] l k0 = k0 + 1 by unfold tkN; rw [if_pos ht]; rfl] at TK
      go_wp2_with fail
      refine TK.out.mono ?_
      rintro en w3 ⟨rfl, hp3, hf3⟩
      have RL := Lib.hid (show PlPost w b l X (.returned (.slice none 0 0)) w3 by
        rw [hx]
        exact ⟨none, 0, [], rfl, rfl, (fun y hy => by cases hy), World.ownsRow_nil _ _ _ _, by simp, hp3, HF2.out.trans (Or.inl rfl) hf3⟩)
      clear hx hp3 hf3
      go_wp2_with fail
      go_ret
      exact RL.out
    · have hx := HX.out.trans (if_neg ht)
      rw [show tkV [93] l k0 = false by simpa using ht, show tkN [93] l k0 = k0 by unfold tkN; rw [if_neg ht]] at TK
      have HX2 := Lib.hid hx
      clear hx ht
      go_wp2_with fail
      refine TK.out.mono ?_
      rintro en w3 ⟨rfl, hp3, hf3⟩
      have hm0 : mes l k0 e3 ≤ 2 * l.length + 1 := by unfold mes; split <;> omega
      have R0 := Lib.hid (show plRel w b l (paV l f (d + 1)) d X (.slice none 0 0) w3 from ⟨[], none, 0, k0, 2 * l.length + 3, e3, rfl, HED.out, hk, by omega, by simp; omega, by rw [HX2.out]; rfl, World.ownsRow_nil _ _ _ _, (fun y hy => by cases hy), hp3, HF2.out.trans (Or.inl rfl) hf3⟩)
      clear hp3 hf3 hm0 TK HX2 HX HP HE3 HED
      go_wp2_with fail
      go_loopw [5] (fun lv wr => plRel w b l (paV l f (d + 1)) d X lv wr) (fun _ wr => mes l (kOf wr b) (eOf wr b))
      case atStart => exact R0.out
      case round =>
        obtain ⟨wq, rfl⟩ : ∃ wq : World, wq = wr := ⟨_, rfl⟩
        obtain ⟨Y, ao, c, k, g, e, rfl, hed, hkl, hmg, hYm, hX, own, hel, hPq, hFq⟩ := hrel
        rw [hPq.kOf, hPq.eOf]
        have c2 := hPq.c2
        have HPQ := Lib.hid hPq
        have HFQ := Lib.hid hFq
        have HXQ := Lib.hid hX
        have OWN := Lib.hid own
        have HEL := Lib.hid hel
        have HMG := Lib.hid hmg
        have HYM := Lib.hid hYm
        clear R0 hPq hFq hX own hel hmg hYm
        by_cases he : e = 0
        · subst he
          have hd8 := hed rfl
          have hgo := paV_goes l f (d + 1) k 0 hkl
          have VC := Lib.hid (IH.out (d + 1) k 0 wq b B l (by omega) (by omega) hkl hl (HG.out.on (HFQ.out.below HBw.out HBb.out (fun g hg => by cases hg))) (Nat.le_trans HBw.out HFQ.out.size) HBb.out HPQ.out)
          have ed : (d : Int) + 1 = ((d + 1 : Nat) : Int) := rfl
          obtain ⟨g, rfl⟩ : ∃ g', g = g' + 1 := ⟨g - 1, by have := HMG.out; omega⟩
          have hst := HXQ.out
          rw [paLoop, if_neg (by simp)] at hst
          obtain ⟨V, hV⟩ : ∃ V, V = paV l f (d + 1) k 0 := ⟨_, rfl⟩
          rw [← hV] at VC hgo hst
          have HST := Lib.hid hst
          have HGO := Lib.hid hgo
          have ED := Lib.hid ed
          clear hV hst ed hed hgo HXQ
          obtain ⟨v1, vk, ve⟩ := V
          go_wp2_with fail
          rw [ED.out]
          refine VC.out.mono ?_
          rintro q w6 ⟨z, rfl, hz1, hz2, hz3, hz4, hz5⟩
          dsimp only at hz1 hz4
          have hsz6 := hz5.size
          have hfq := HFQ.out.size
          have ow6 : w6.ownsRow w.heap.size 24 4 (.slice ao Y.length c) Y.length (vcs Y) := own_keepK OWN.out (fun g hg hgl => hz5.block g hgl (by have := (OWN.out.lt g hg).1; omega) (fun e => by cases e))
          have OW6 := Lib.hid ow6
          have HZ := Lib.hid (And.intro hz1 (And.intro hz2 (And.intro hz3 (And.intro hz4 hz5))))
          have HYL := Lib.hid (show Y.length ≤ 3000000000 by have := HYM.out; omega)
          clear hz1 hz2 hz3 hz4 hz5 ow6
          obtain ⟨zk, zn, zs, za, zc, zl⟩ := z
          unfold VT.cells
          go_wp2_with (at_builtin; refine wpList_append_own_src _ rfl (.tmp 17) (.tmp 22) 22 22 rfl w.heap.size 24 i0 (.agg #[.int .i64 0, .int .i64 0, .string ⟨#[]⟩, .slice none 0 0]) 4 56 Tryz.underlying22 HI.out.1 HI.out.2.1 HI.out.2.2.1 HI.out.2.2.2 rfl _ Y.length (vcs Y) rfl (OW6.out.alloc _) _ 1 (VT.mk zk zn zs za zc zl).cells rfl (src_oneK Tryz.underlying22 w6 (VT.mk zk zn zs za zc zl).cells (VT.cells_len _) (VT.cells_one' _)) ?b1 ?b2 ?b3 ?next)
          case b1 => have := HYL.out; unfold maxLen; omega
          case b2 => have := HYL.out; omega
          case b3 => simp; omega
          case next =>
            intro v2 w7 g7
            have gr := g7.2.2
            obtain ⟨a2, c2, rfl, own7, hb7, blk7⟩ := grew_oneK OW6.out (by omega) (Nat.le_refl _) g7
            have hz := HZ.out
            have hl1 : (Y ++ [VT.mk zk zn zs za zc zl]).length = Y.length + 1 := by simp
            have nb : ∀ q, q < w.heap.size → w7.heap[q]? = w6.heap[q]? := fun q hq => blk7 q (by omega) (fun e => by have := (OW6.out.lt q e.symm).1; omega)
            have OW7 := Lib.hid (show w7.ownsRow w.heap.size 24 4 (.slice a2 (Y.length + 1) c2) (Y.length + 1) (vcs (Y ++ [VT.mk zk zn zs za zc zl])) by
              rw [vcs_app, show vcs [VT.mk zk zn zs za zc zl] = (VT.mk zk zn zs za zc zl).cells by simp [vcs]]
              exact own7)
            have EL7 := Lib.hid (elems_app (n := Y.length) (c := c) (ao := ao) (wq := wq) (w4 := w6) (m := w6.heap.size + 1) (by omega) HEL.out hsz6 (fun q h1 h2 => hz.2.2.2.2.block q h1 (by omega) (fun e => by cases e)) ⟨hz.2.1, hz.2.2.1⟩ (fun g hg => (OWN.out.lt g hg).2) hb7.size blk7 (by simpa using gr) (by omega))
            have P7 := Lib.hid (hz.2.2.2.1.keep (nb b hb))
            have F7 := Lib.hid (show Fr w w7 b none from by
              have f6 := HFQ.out.trans (Or.inl rfl) hz.2.2.2.2
              exact ⟨hb7.os.trans f6.os, hb7.tape.trans f6.tape, hb7.output.trans f6.output, Nat.le_trans f6.size hb7.size, fun q hq h1 h2 => (nb q hq).trans (f6.block q hq h1 h2)⟩)
            have NZ := Lib.hid (show (Y ++ [VT.mk zk zn zs za zc zl]).map VT.nz = Y.map VT.nz ++ [v1] by rw [List.map_append]; simp only [List.map_cons, List.map_nil, hz.1])
            have HL1 := Lib.hid hl1
            obtain ⟨Y2, hY2⟩ : ∃ Y2, Y2 = Y ++ [VT.mk zk zn zs za zc zl] := ⟨_, rfl⟩
            rw [← hY2] at OW7 EL7 NZ HL1
            have TK7 := Lib.hid (ptake_any P7.out HGO.out.2.1 (by omega) [93])
            clear own7 hb7 blk7 g7 gr hz hl1 nb hY2 HZ
            by_cases ht : tkV [93] l vk = true
            · have hx := HST.out
              rw [if_pos ht] at hx
              rw [ht, show tkN [93] l vk = vk + 1 by unfold tkN; rw [if_pos ht]; rfl] at TK7
              clear ht
              go_wp2_with fail
              refine TK7.out.mono ?_
              rintro en w8 ⟨rfl, hp8, hf8⟩
              have ne8 : ∀ y ∈ Y2, y.At w8.heap.size w8 ∧ y.In (w.heap.size ≤ ·) := fun y hy => by
                obtain ⟨p1, p2, p3⟩ := EL7.out y hy
                exact ⟨(p1.keepT p2 (fun q h1 h2 => hf8.block q h1 (by omega) (fun e => by cases e))).mono hf8.size, p2⟩
              have RL := Lib.hid (show PlPost w b l X (.returned (.slice a2 (Y.length + 1) c2)) w8 by
                rw [hx, ← HL1.out]
                refine ⟨a2, c2, Y2, rfl, by rw [NZ.out], ne8, own_keepK (by rw [HL1.out]; exact OW7.out) (fun g hg hgl => hf8.block g hgl (by rw [HL1.out] at hg; have := (OW7.out.lt g hg).1; omega) (fun e => by cases e)), by rw [HL1.out]; have := HYM.out; omega, hp8, F7.out.trans (Or.inl rfl) hf8⟩)
              clear hx hp8 hf8 ne8
              go_wp2_with fail
              go_ret
              exact RL.out
            · have hx := HST.out
              rw [if_neg ht] at hx
              rw [show tkV [93] l vk = false by simpa using ht, show tkN [93] l vk = vk by unfold tkN; rw [if_neg ht]] at TK7
              have HST2 := Lib.hid hx
              clear ht hx HST
              go_wp2_with fail
              refine TK7.out.mono ?_
              rintro en w8 ⟨rfl, hp8, hf8⟩
              have TK8 := Lib.hid (ptake_any hp8 HGO.out.2.1 (by omega) [32])
              have HF8 := Lib.hid hf8
              clear hp8 hf8 TK7
              by_cases ht : tkV [32] l vk = true
              · have hx := HST2.out
                rw [if_pos ht] at hx
                have hvl := tk_len HGO.out.2.1 ht
                rw [ht, show tkN [32] l vk = vk + 1 by unfold tkN; rw [if_pos ht]; rfl] at TK8
                have HMS := Lib.hid (mes_step HGO.out hvl)
                have HKK : vk + 1 ≤ l.length := hvl
                clear ht
                go_wp2_with fail
                refine TK8.out.mono ?_
                rintro en w9 ⟨rfl, hp9, hf9⟩
                have fW := HF8.out.trans (Or.inl rfl) hf9
                have ne8 : ∀ y ∈ Y2, y.At w9.heap.size w9 ∧ y.In (w.heap.size ≤ ·) ∧ y.In (fun k => some k ≠ (Value.slice a2 Y2.length c2).ownBlock) := fun y hy => by
                  obtain ⟨p1, p2, p3⟩ := EL7.out y hy
                  exact ⟨(p1.keepT p2 (fun q h1 h2 => fW.block q h1 (by omega) (fun e => by cases e))).mono fW.size, p2, p3.imp fun q hq => by rw [HL1.out]; exact hq⟩
                have RL := Lib.hid (show plRel w b l (paV l f (d + 1)) d X (.slice a2 (Y.length + 1) c2) w9 by
                  rw [← HL1.out]
                  refine ⟨Y2, a2, c2, (vk + 1), g, ve, rfl, fun _ => hd8, HKK, by have := HMG.out; have := HMS.out; omega, by rw [HL1.out]; have := HYM.out; have := HMS.out; omega, ?_, own_keepK (by rw [HL1.out]; exact OW7.out) (fun g hg hgl => fW.block g hgl (by rw [HL1.out] at hg; have := (OW7.out.lt g hg).1; omega) (fun e => by cases e)), ne8, hp9, F7.out.trans (Or.inl rfl) fW⟩
                  rw [hx, NZ.out]; simp)
                have hko := (show PS w9 b l (vk + 1) ve from hp9).kOf
                have heo := (show PS w9 b l (vk + 1) ve from hp9).eOf
                have HM9 := Lib.hid (show mes l (kOf w9 b) (eOf w9 b) < mes l k 0 by rw [hko, heo]; exact HMS.out)
                clear ne8 hko heo fW hp9 hf9 hx hvl HKK
                go_wp2_with fail
                exact ⟨RL.out, HM9.out⟩
              · have hx := HST2.out
                rw [if_neg ht] at hx
                rw [show tkV [32] l vk = false by simpa using ht, show tkN [32] l vk = vk by unfold tkN; rw [if_neg ht]] at TK8
                have HMS := Lib.hid (mes_bad HGO.out)
                have HKK : vk ≤ l.length := HGO.out.2.1
                clear ht
                go_wp2_with fail
                refine TK8.out.mono ?_
                rintro en w9 ⟨rfl, hp9, hf9⟩
                have PF := Lib.hid (pfail_any hp9 8)
                have HF9 := Lib.hid (HF8.out.trans (Or.inl rfl) hf9)
                clear hp9 hf9
                go_wp2_with fail
                refine PF.out.mono ?_
                rintro en wA ⟨rfl, hpA, hfA⟩
                have fW := HF9.out.trans (Or.inl rfl) hfA
                have ne8 : ∀ y ∈ Y2, y.At wA.heap.size wA ∧ y.In (w.heap.size ≤ ·) ∧ y.In (fun k => some k ≠ (Value.slice a2 Y2.length c2).ownBlock) := fun y hy => by
                  obtain ⟨p1, p2, p3⟩ := EL7.out y hy
                  exact ⟨(p1.keepT p2 (fun q h1 h2 => fW.block q h1 (by omega) (fun e => by cases e))).mono fW.size, p2, p3.imp fun q hq => by rw [HL1.out]; exact hq⟩
                have RL := Lib.hid (show plRel w b l (paV l f (d + 1)) d X (.slice a2 (Y.length + 1) c2) wA by
                  rw [← HL1.out]
                  refine ⟨Y2, a2, c2, vk, g, (fe ve 8), rfl, fun _ => hd8, HKK, by have := HMG.out; have := HMS.out; omega, by rw [HL1.out]; have := HYM.out; have := HMS.out; omega, ?_, own_keepK (by rw [HL1.out]; exact OW7.out) (fun g hg hgl => fW.block g hgl (by rw [HL1.out] at hg; have := (OW7.out.lt g hg).1; omega) (fun e => by cases e)), ne8, hpA, F7.out.trans (Or.inl rfl) fW⟩
                  rw [hx, NZ.out]; simp)
                have hko := (show PS wA b l vk (fe ve 8) from hpA).kOf
                have heo := (show PS wA b l vk (fe ve 8) from hpA).eOf
                have HM9 := Lib.hid (show mes l (kOf wA b) (eOf wA b) < mes l k 0 by rw [hko, heo]; exact HMS.out)
                clear ne8 hko heo fW hpA hfA hx HKK
                go_wp2_with fail
                exact ⟨RL.out, HM9.out⟩
        · have hfin : X = (Y.map VT.nz, k, e) := by
            rw [HXQ.out]
            obtain ⟨m, hm⟩ : ∃ m, g = m + 1 := ⟨g - 1, by have := HMG.out; omega⟩
            rw [hm, paLoop, if_pos he]
            simp
          have he2 : (e == 0) = false := by simpa using he
          have RL := Lib.hid (show PlPost w b l X (.returned (.slice ao Y.length c)) wq by
            rw [hfin]
            exact ⟨ao, c, Y, rfl, rfl, fun y hy => ⟨(HEL.out y hy).1, (HEL.out y hy).2.1⟩, OWN.out, by have := HYM.out; omega, HPQ.out, HFQ.out⟩)
          clear hfin
          go_wp2_with fail
          go_ret
          exact RL.out
end Go.Proofs.YthfjahagmfgfeaaGreatDoor.Wi
