/- Write. -/
import Derived.Test.YtnfobnnbeefeeaaGreatDoorGJ
import Derived.Test.YtnfobnnbeefeeaaGreatDoorG6
namespace Go.Proofs.YtnfobnnbeefeeaaGreatDoor.Wi
open Go Go.RowKit
set_option linter.unusedVariables false
set_option linter.unusedSimpArgs false
theorem fr_at {w1 : World} {b g N : Nat} {r : Option Nat} {x : Ev} (n1 : w1.heap[g]? = some (.cells x.cells.toArray 28 (0, 0))) (hbg : g ≠ b) (hrg : some g ≠ r) (hx : x.At N w1) (hb : N ≤ b) (hr : ∀ q, r = some q → N ≤ q) (hN : N ≤ w1.heap.size) (W : World) (hF : Fr w1 W b r) : EvC W g x ∧ x.At N W :=
  ⟨evC ((hF.block g (lt_of_rowK n1) hbg hrg).trans n1), hx.keep fun k hk => hF.block k (by omega) (by omega) (fun e => by have := hr k e.symm; omega)⟩
theorem wrote_parts {w : World} {b : Nat} {r : Option Nat} {zs ys : List UInt8} {wd : World} (h : Wrote w wd b r zs) (e : zs = ys) : Wrote w wd b r ys := e ▸ h
theorem oI_le {c : Bool} {l : List UInt8} {n : Nat} (h : l.length ≤ n) : (oI c l).length ≤ n := by cases c; exact Nat.zero_le _; exact h
set_option maxHeartbeats 16000000 in
set_option maxRecDepth 100000 in
theorem ewrite_any (x : Ev) (N b : Nat) (r : Option Nat) (xs : List UInt8) (w : World) (hx : x.At N w) (hv : x.vE = 0) (hN : N ≤ w.heap.size) (hb : N ≤ b) (hr : ∀ g, r = some g → N ≤ g) (hW : Wr w b r xs) (hsz : xs.length + 1000 ≤ 140737488355328) (he : EB N w) :
    Calls Tryz.prog 92 #[.pointer (some ⟨b, 0, none⟩), .agg x.cells.toArray] w fun e w' => e = .returned (.tuple #[]) ∧ Wrote w w' b r (xs ++ x.eb) := by
  have FI := Ev.fits hv
  have fkn := FI.kn; have fid := FI.id; have fti := FI.time; have fa0 := FI.a.1; have fb0 := FI.b.1; have ma := hx.a.2; have mb := hx.b.2; have fnm := FI.name.1; have ftx := FI.text.1
  have HFine := Lib.hid (fine FI.val.1)
  obtain ⟨w1, hw1⟩ : ∃ bx, bx = w.alloc (.cells x.cells.toArray 28) := ⟨_, rfl⟩
  obtain ⟨g, hg⟩ : ∃ bx, bx = w.heap.size := ⟨_, rfl⟩
  have bw1 : Below w.heap.size w w1 := by rw [hw1]; exact (Below.refl _ _).alloc (Nat.le_refl _) _
  have nw1 : w1.heap[g]? = some (.cells x.cells.toArray 28 (0, 0)) := by rw [hw1, hg]; exact heap_alloc_new _ _
  have Kw1 := Lib.hid (rowE nw1)
  have Cw1 := Lib.hid (evC nw1)
  have Hw1 := Lib.hid hw1
  have Hg := Lib.hid hg
  have Bw1 := Lib.hid bw1
  have Nw1 := Lib.hid nw1
  clear hw1 hg bw1 nw1
  have hbg : g ≠ b := by have := hW.lt; have := Hg.out; omega
  have hrg : some g ≠ r := fun e => by have := hW.rlt g e.symm; have := Hg.out; omega
  have W1 : Wr w1 b r xs := by rw [Hw1.out]; exact hW.alloc _
  have F1 : Fr w w1 b r := by rw [Hw1.out]; exact (Fr.refl w b r).alloc _
  have KC := Lib.hid (fr_at Nw1.out hbg hrg (hx.below (Bw1.out.mono hN)) hb hr (Nat.le_trans hN Bw1.out.size))
  have AB := Lib.hid (about_any x.kind hx.kind w1 (he.len w1 (Bw1.out.mono hN)))
  have HK := hasK x.kind
  have HFA := Lib.hid HK.a
  have HFB := Lib.hid HK.b
  have HFN := Lib.hid HK.n
  have HFT := Lib.hid HK.t
  have HFV := Lib.hid HK.v
  obtain ⟨Q0, hQ0⟩ : ∃ Q0, Q0 = UInt8.ofNat x.kind.toNat :: (enc x.id.toNat ++ enc x.time.toNat) := ⟨_, rfl⟩
  obtain ⟨QA, hQA⟩ : ∃ QA, QA = oI (eA x.kind) (enc x.a.toNat) := ⟨_, rfl⟩
  obtain ⟨QB, hQB⟩ : ∃ QB, QB = oI (eB x.kind) (enc x.b.toNat) := ⟨_, rfl⟩
  obtain ⟨QN, hQN⟩ : ∃ QN, QN = oI (eN x.kind) (enc x.name.length ++ x.name) := ⟨_, rfl⟩
  obtain ⟨QT, hQT⟩ : ∃ QT, QT = oI (eT x.kind) (enc x.text.length ++ x.text) := ⟨_, rfl⟩
  obtain ⟨QV, hQV⟩ : ∃ QV, QV = oI (eV x.kind) x.val.vb := ⟨_, rfl⟩
  have heb : xs ++ x.eb = xs ++ Q0 ++ QA ++ QB ++ QN ++ QT ++ QV := by
    unfold Ev.eb
    rw [hQ0, hQA, hQB, hQN, hQT, hQV]
    simp only [List.append_assoc, List.cons_append]
  rw [heb]
  have l0 : Q0.length ≤ 21 := by rw [hQ0]; have := enc_length x.id.toNat; have := enc_length x.time.toNat; simp; omega
  have lA : QA.length ≤ 10 := by rw [hQA]; exact oI_le (enc_length _)
  have lB : QB.length ≤ 10 := by rw [hQB]; exact oI_le (enc_length _)
  have lN : QN.length ≤ 74 := by rw [hQN]; refine oI_le ?_; have := enc_length x.name.length; simp; omega
  have lT : QT.length ≤ 138 := by rw [hQT]; refine oI_le ?_; have := enc_length x.text.length; simp; omega
  obtain ⟨fa, hfa⟩ : ∃ f, f = eA x.kind := ⟨_, rfl⟩
  obtain ⟨fb, hfb⟩ : ∃ f, f = eB x.kind := ⟨_, rfl⟩
  obtain ⟨fn, hfn⟩ : ∃ f, f = eN x.kind := ⟨_, rfl⟩
  obtain ⟨ft, hft⟩ : ∃ f, f = eT x.kind := ⟨_, rfl⟩
  obtain ⟨fv, hfv⟩ : ∃ f, f = eV x.kind := ⟨_, rfl⟩
  obtain ⟨F, hF⟩ : ∃ F, F = str (eLt x.kind) := ⟨_, rfl⟩
  obtain ⟨M, hM⟩ : ∃ M, M = str (eNm x.kind) := ⟨_, rfl⟩
  rw [← hF, ← hfa] at HFA
  rw [← hF, ← hfb] at HFB
  rw [← hF, ← hfn] at HFN
  rw [← hF, ← hft] at HFT
  rw [← hF, ← hfv] at HFV
  rw [← hfa] at hQA
  rw [← hfb] at hQB
  rw [← hfn] at hQN
  rw [← hft] at hQT
  rw [← hfv] at hQV
  rw [← hF, ← hM] at AB
  have c2 := Cw1.out.c2
  have HQA := Lib.hid hQA
  have HQB := Lib.hid hQB
  have HQN := Lib.hid hQN
  have HQT := Lib.hid hQT
  have HQV := Lib.hid hQV
  have HQ0 := Lib.hid hQ0
  have HB := Lib.hid hb
  have HR := Lib.hid hr
  have HF1 := Lib.hid F1
  have HW1 := Lib.hid W1
  have HN1 := Lib.hid (show N ≤ w1.heap.size from Nat.le_trans hN Bw1.out.size)
  have FIDS := Lib.hid (show (1 ≤ x.kind ∧ x.kind ≤ 21) ∧ (1 ≤ x.id ∧ x.id ≤ 1048576) ∧ (0 ≤ x.time ∧ x.time ≤ 4611686018427387903) ∧ (0 ≤ x.a ∧ x.a ≤ 9223372036854775807) ∧ (0 ≤ x.b ∧ x.b ≤ 9223372036854775807) ∧ x.name.length ≤ 64 ∧ x.text.length ≤ 128 from ⟨fkn, fid, fti, ⟨fa0, ma⟩, ⟨fb0, mb⟩, fnm, ftx⟩)
  have LL := Lib.hid (show xs.length + 1000 ≤ 140737488355328 ∧ Q0.length ≤ 21 ∧ QA.length ≤ 10 ∧ QB.length ≤ 10 ∧ QN.length ≤ 74 ∧ QT.length ≤ 138 from ⟨hsz, l0, lA, lB, lN, lT⟩)
  clear hQ0 hQA hQB hQN hQT hQV heb l0 lA lB lN lT hfa hfb hfn hft hfv hF hM HK F1 W1 hbg hrg hb hr hW hx hv hN he FI fkn fid fti fa0 fb0 ma mb fnm ftx hsz
  go_enter Tryz.func92, Tryz.ntmps92
  go_upto_region 1 with fail
  rw [← Hw1.out, ← Hg.out]
  go_wp2_with fail
  refine AB.out.mono ?_
  rintro e w2 ⟨rfl, n2, hw2⟩
  have HW2 := Lib.hid (show Wr w2 b r xs by rw [hw2]; exact HW1.out)
  have HF2 := Lib.hid (show Fr w1 w2 b r by rw [hw2]; exact ⟨rfl, rfl, rfl, Nat.le_refl _, fun _ _ _ _ => rfl⟩)
  have c2b := (KC.out w2 HF2.out).1.c2
  clear hw2 c2
  have kb := FIDS.out.1
  go_wp2_with fail
  refine (byte_one HW2.out w2.heap.size rfl x.kind (UInt8.ofNat x.kind.toNat) (u8_kd kb).symm (by have := LL.out.1; omega)).mono ?_
  rintro e w3 ⟨rfl, h3⟩
  have CU := Lib.hid (Wrote.trans (xs := xs) HF2.out (Or.inl rfl) h3)
  clear h3 c2b kb
  obtain ⟨r3, W3, F3, q3⟩ := CU.out
  have c0 := (KC.out w3 F3).1.c0
  have c1 := (KC.out w3 F3).1.c1
  have bi := FIDS.out.2.1
  have bt := FIDS.out.2.2.1
  have NT := Lib.hid (num_two W3 w3.heap.size rfl x.id x.time x.id.toNat x.time.toNat (by omega) (by omega) (by omega) (by omega) (by have := LL.out.1; simp; omega))
  have F3h := Lib.hid F3
  have q3h := Lib.hid q3
  clear W3 F3 q3
  have bt1 := bt.1
  have bt2 : x.time < 9223372036854775808 := by omega
  clear bt
  go_wp2_with fail
  refine NT.out.mono ?_
  rintro e w4 ⟨rfl, h4⟩
  have C1 := Lib.hid (show Wrote w1 w4 b r (xs ++ Q0) from wrote_parts (Wrote.trans (xs := xs) F3h.out q3h.out h4) (by rw [HQ0.out]; simp only [List.append_assoc, List.cons_append, List.nil_append]))
  clear h4 c0 c1 bi bt1 bt2 NT F3h q3h CU
  go_upto_if 28 with (with_reducible refine (HFA.out _).mono ?_; rintro _ wz ⟨rfl, hwz⟩; have hwz2 := hwz.symm; subst hwz2; clear hwz)
  go_cut [] (fun wx => Wrote w1 wx b r (xs ++ Q0 ++ QA))
  case first =>
    cases fa
    · have RL := Lib.hid (show Wrote w1 w4 b r (xs ++ Q0 ++ QA) from wrote_parts C1.out (by rw [HQA.out]; show _ = _ ++ []; rw [List.append_nil]))
      go_wp2_with fail
      go_meet
      all_goals exact RL.out
    · obtain ⟨rc, Wc, Fc, qc⟩ := C1.out
      have cc := (KC.out w4 Fc).1.c3
      have bi := FIDS.out.2.2.2.1
      have NT := Lib.hid (num_one Wc w4.heap.size rfl x.a x.a.toNat (by omega) (by omega) (by have := LL.out; simp only [List.length_append]; omega))
      have Fh := Lib.hid Fc
      have qh := Lib.hid qc
      have bi1 := bi.1
      have bi2 : x.a < 9223372036854775808 := by omega
      clear Wc Fc qc bi
      go_wp2_with fail
      refine NT.out.mono ?_
      rintro e wy ⟨rfl, hy⟩
      have RL := Lib.hid (show Wrote w1 wy b r (xs ++ Q0 ++ QA) from wrote_parts (Wrote.trans (xs := xs) Fh.out qh.out hy) (by rw [HQA.out]; simp only [oI, if_true, List.append_assoc]))
      clear hy
      go_wp2_with fail
      go_meet
      all_goals exact RL.out
  case rest =>
    obtain ⟨w5, rfl⟩ : ∃ wd : World, wd = wc := ⟨_, rfl⟩
    have C2 := Lib.hid hcut
    clear hcut C1
    go_upto_if 36 with (with_reducible refine (HFB.out _).mono ?_; rintro _ wz ⟨rfl, hwz⟩; have hwz2 := hwz.symm; subst hwz2; clear hwz)
    go_cut [] (fun wx => Wrote w1 wx b r (xs ++ Q0 ++ QA ++ QB))
    case first =>
      cases fb
      · have RL := Lib.hid (show Wrote w1 w5 b r (xs ++ Q0 ++ QA ++ QB) from wrote_parts C2.out (by rw [HQB.out]; show _ = _ ++ []; rw [List.append_nil]))
        go_wp2_with fail
        go_meet
        all_goals exact RL.out
      · obtain ⟨rc, Wc, Fc, qc⟩ := C2.out
        have cc := (KC.out w5 Fc).1.c4
        have bi := FIDS.out.2.2.2.2.1
        have NT := Lib.hid (num_one Wc w5.heap.size rfl x.b x.b.toNat (by omega) (by omega) (by have := LL.out; simp only [List.length_append]; omega))
        have Fh := Lib.hid Fc
        have qh := Lib.hid qc
        have bi1 := bi.1
        have bi2 : x.b < 9223372036854775808 := by omega
        clear Wc Fc qc bi
        go_wp2_with fail
        refine NT.out.mono ?_
        rintro e wy ⟨rfl, hy⟩
        have RL := Lib.hid (show Wrote w1 wy b r (xs ++ Q0 ++ QA ++ QB) from wrote_parts (Wrote.trans (xs := xs) Fh.out qh.out hy) (by rw [HQB.out]; simp only [oI, if_true, List.append_assoc]))
        clear hy
        go_wp2_with fail
        go_meet
        all_goals exact RL.out
    case rest =>
      obtain ⟨w6, rfl⟩ : ∃ wd : World, wd = wc := ⟨_, rfl⟩
      have C3 := Lib.hid hcut
      clear hcut C2
      go_upto_if 44 with (with_reducible refine (HFN.out _).mono ?_; rintro _ wz ⟨rfl, hwz⟩; have hwz2 := hwz.symm; subst hwz2; clear hwz)
      go_cut [] (fun wx => Wrote w1 wx b r (xs ++ Q0 ++ QA ++ QB ++ QN))
      case first =>
        cases fn
        · have RL := Lib.hid (show Wrote w1 w6 b r (xs ++ Q0 ++ QA ++ QB ++ QN) from wrote_parts C3.out (by rw [HQN.out]; show _ = _ ++ []; rw [List.append_nil]))
          go_wp2_with fail
          go_meet
          all_goals exact RL.out
        · obtain ⟨rc, Wc, Fc, qc⟩ := C3.out
          have cc := (KC.out w6 Fc).1.c5
          have NT := Lib.hid (wtext_any Wc (str x.name) (by have := LL.out; have := FIDS.out.2.2.2.2.2; rw [str_sizeX]; simp only [List.length_append]; omega))
          rw [str_sizeX, str_datE] at NT
          have Fh := Lib.hid Fc
          have qh := Lib.hid qc
          obtain ⟨S, hS⟩ : ∃ S, S = str x.name := ⟨_, rfl⟩
          rw [← hS] at cc NT
          clear Wc Fc qc hS
          go_wp2_with fail
          refine NT.out.mono ?_
          rintro e wy ⟨rfl, hy⟩
          have RL := Lib.hid (show Wrote w1 wy b r (xs ++ Q0 ++ QA ++ QB ++ QN) from wrote_parts (Wrote.trans (xs := xs) Fh.out qh.out hy) (by rw [HQN.out]; simp only [oI, if_true, List.append_assoc]))
          clear hy
          go_wp2_with fail
          go_meet
          all_goals exact RL.out
      case rest =>
        obtain ⟨w7, rfl⟩ : ∃ wd : World, wd = wc := ⟨_, rfl⟩
        have C4 := Lib.hid hcut
        clear hcut C3
        go_upto_if 50 with (with_reducible refine (HFT.out _).mono ?_; rintro _ wz ⟨rfl, hwz⟩; have hwz2 := hwz.symm; subst hwz2; clear hwz)
        go_cut [] (fun wx => Wrote w1 wx b r (xs ++ Q0 ++ QA ++ QB ++ QN ++ QT))
        case first =>
          cases ft
          · have RL := Lib.hid (show Wrote w1 w7 b r (xs ++ Q0 ++ QA ++ QB ++ QN ++ QT) from wrote_parts C4.out (by rw [HQT.out]; show _ = _ ++ []; rw [List.append_nil]))
            go_wp2_with fail
            go_meet
            all_goals exact RL.out
          · obtain ⟨rc, Wc, Fc, qc⟩ := C4.out
            have cc := (KC.out w7 Fc).1.c6
            have NT := Lib.hid (wtext_any Wc (str x.text) (by have := LL.out; have := FIDS.out.2.2.2.2.2; rw [str_sizeX]; simp only [List.length_append]; omega))
            rw [str_sizeX, str_datE] at NT
            have Fh := Lib.hid Fc
            have qh := Lib.hid qc
            obtain ⟨S, hS⟩ : ∃ S, S = str x.text := ⟨_, rfl⟩
            rw [← hS] at cc NT
            clear Wc Fc qc hS
            go_wp2_with fail
            refine NT.out.mono ?_
            rintro e wy ⟨rfl, hy⟩
            have RL := Lib.hid (show Wrote w1 wy b r (xs ++ Q0 ++ QA ++ QB ++ QN ++ QT) from wrote_parts (Wrote.trans (xs := xs) Fh.out qh.out hy) (by rw [HQT.out]; simp only [oI, if_true, List.append_assoc]))
            clear hy
            go_wp2_with fail
            go_meet
            all_goals exact RL.out
        case rest =>
          obtain ⟨w8, rfl⟩ : ∃ wd : World, wd = wc := ⟨_, rfl⟩
          have C5 := Lib.hid hcut
          clear hcut C4
          cases fv
          · have RL := Lib.hid (show Wrote w1 w8 b r (xs ++ Q0 ++ QA ++ QB ++ QN ++ QT ++ QV) from wrote_parts C5.out (by rw [HQV.out]; show _ = _ ++ []; rw [List.append_nil]))
            go_wp2_with (with_reducible refine (HFV.out _).mono ?_; rintro _ wz ⟨rfl, hwz⟩; have hwz2 := hwz.symm; subst hwz2; clear hwz)
            go_end0
            exact ⟨rfl, Wrote.trans (xs := xs) HF1.out (Or.inl rfl) RL.out⟩
          · obtain ⟨rc, Wc, Fc, qc⟩ := C5.out
            have cc := (KC.out w8 Fc).1.cv
            have av := (KC.out w8 Fc).2.val
            have NT := Lib.hid (vwrite_any x.val N b rc _ w8 av HFine.out.kin HFine.out.dpr (Nat.le_trans HN1.out Fc.size) HB.out (fun q hq => by
              rcases qc with rfl | ⟨q2, rfl, h2⟩
              · exact HR.out q hq
              · injection hq with hq; have := HN1.out; omega) Wc (by have := LL.out; have := HFine.out.vb; simp only [List.length_append]; omega))
            have Fh := Lib.hid Fc
            have qh := Lib.hid qc
            have cch := Lib.hid cc
            clear Wc Fc qc av cc
            go_wp2_with (first | (with_reducible refine (HFV.out _).mono ?_; rintro _ wz ⟨rfl, hwz⟩; have hwz2 := hwz.symm; subst hwz2; clear hwz) | (with_reducible show wpList _ _ _ _ _ _; refine wpList_load_allW rfl 26 (.tmp 58) rfl ⟨g,7,none⟩ rfl x.val.cells _ cch.out Tryz.underlying26 rfl (Tryz.valSize x.val) ?_))
            refine NT.out.mono ?_
            rintro e wy ⟨rfl, hy⟩
            have RL := Lib.hid (show Wrote w1 wy b r (xs ++ Q0 ++ QA ++ QB ++ QN ++ QT ++ QV) from wrote_parts (Wrote.trans (xs := xs) Fh.out qh.out hy) (by rw [HQV.out]; simp only [oI, if_true, List.append_assoc]))
            clear hy
            go_wp2_with fail
            go_end0
            exact ⟨rfl, Wrote.trans (xs := xs) HF1.out (Or.inl rfl) RL.out⟩
end Go.Proofs.YtnfobnnbeefeeaaGreatDoor.Wi
/- Encode. -/
namespace Go.Proofs.YtnfobnnbeefeeaaGreatDoor.Wi
open Go Go.RowKit
set_option linter.unusedVariables false
set_option linter.unusedSimpArgs false
theorem eb_len {x : Ev} (h : x.vE = 0) : x.eb.length ≤ 800 := by
  have FI := Ev.fits h
  have hv := (fine FI.val.1).vb
  have h1 := FI.name.1
  have h2 := FI.text.1
  have e1 := enc_length x.id.toNat
  have e2 := enc_length x.time.toNat
  have e3 := oI_le (c := eA x.kind) (enc_length x.a.toNat)
  have e4 := oI_le (c := eB x.kind) (enc_length x.b.toNat)
  have e5 : (oI (eN x.kind) (enc x.name.length ++ x.name)).length ≤ 74 := oI_le (by have := enc_length x.name.length; simp; omega)
  have e6 : (oI (eT x.kind) (enc x.text.length ++ x.text)).length ≤ 138 := oI_le (by have := enc_length x.text.length; simp; omega)
  have e7 : (oI (eV x.kind) x.val.vb).length ≤ 512 := oI_le hv
  unfold Ev.eb
  simp only [List.length_cons, List.length_append]
  omega
def EencPost (w : World) (x : Ev) (e : Ending) (w' : World) : Prop :=
  Below w.heap.size w w' ∧ if x.vE = 0 then ∃ ao c, e = .returned (.tuple #[.slice ao x.eb.length c, .int .i64 0]) ∧ w'.ownsRow w.heap.size 5 1 (.slice ao x.eb.length c) x.eb.length (bvs x.eb) else e = .returned (.tuple #[.slice none 0 0, .int .i64 x.vE])
set_option maxHeartbeats 8000000 in
set_option maxRecDepth 100000 in
theorem eencode_any (x : Ev) (N : Nat) (w : World) (hx : x.At N w) (hN : N ≤ w.heap.size) (he : EB N w) : Calls Tryz.prog 43 #[.agg x.cells.toArray] w (EencPost w x) := by
  obtain ⟨w1, hw1⟩ : ∃ bx, bx = w.alloc (.cells x.cells.toArray 28) := ⟨_, rfl⟩
  obtain ⟨g, hg⟩ : ∃ bx, bx = w.heap.size := ⟨_, rfl⟩
  have bw1 : Below w.heap.size w w1 := by rw [hw1]; exact (Below.refl _ _).alloc (Nat.le_refl _) _
  have nw1 : w1.heap[g]? = some (.cells x.cells.toArray 28 (0, 0)) := by rw [hw1, hg]; exact heap_alloc_new _ _
  have Kw1 := Lib.hid (rowE nw1)
  have Cw1 := Lib.hid (evC nw1)
  have Hw1 := Lib.hid hw1
  have Hg := Lib.hid hg
  have Bw1 := Lib.hid bw1
  have Nw1 := Lib.hid nw1
  clear hw1 hg bw1 nw1
  have HX := Lib.hid hx
  have HE := Lib.hid he
  have CK := Lib.hid (echeck_any x N w1 (hx.below (Bw1.out.mono hN)) (Nat.le_trans hN Bw1.out.size) ((he.on (Bw1.out.mono hN)).base (Nat.le_trans hN Bw1.out.size)))
  obtain ⟨R, hR⟩ : ∃ R, R = x.vE := ⟨_, rfl⟩
  rw [← hR] at CK
  have HR := Lib.hid hR
  clear hR hx he
  go_enter Tryz.func43, Tryz.ntmps43
  go_upto_region 1 with fail
  rw [← Hw1.out, ← Hg.out]
  go_wp2_with (with_reducible show wpList _ _ _ _ _ _; refine wpList_load_allW rfl 28 (.tmp 1) rfl ⟨g,0,none⟩ rfl x.cells _ Kw1.out Tryz.underlying28 rfl (Tryz.evSize x) ?_)
  refine CK.out.mono ?_
  rintro e w3 ⟨rfl, hb3⟩
  have HN3 := Lib.hid ((hb3.block g (lt_of_rowW Nw1.out)).trans Nw1.out)
  have HB3 := Lib.hid (Bw1.out.trans (hb3.mono Bw1.out.size))
  clear hb3
  by_cases h0 : R = 0
  · subst h0
    have hle := eb_len HR.out.symm
    obtain ⟨w4, hw4⟩ : ∃ w4, w4 = w3.alloc (.cells #[.slice none 0 0] 93) := ⟨_, rfl⟩
    obtain ⟨q, hq⟩ : ∃ q, q = w3.heap.size := ⟨_, rfl⟩
    have hb4 : Below w3.heap.size w3 w4 := by rw [hw4]; exact (Below.refl _ _).alloc (Nat.le_refl _) _
    have W4 : Wr w4 q none [] := by rw [hw4, hq]; exact Wr.new w3
    have hN3 : N ≤ w3.heap.size := Nat.le_trans hN HB3.out.size
    have hb04 := HB3.out.trans (hb4.mono HB3.out.size)
    have WV := ewrite_any x N q none [] w4 (HX.out.below (hb04.mono hN)) HR.out.symm (Nat.le_trans hN3 hb4.size) (by omega) (fun q e => by cases e) W4 (by simp) (HE.out.on (hb04.mono hN))
    rw [List.nil_append] at WV
    have HWV := Lib.hid WV
    have hn4 := (hb4.block g (lt_of_rowW HN3.out)).trans HN3.out
    have KD4 := Lib.hid (rowE hn4)
    have HB4 := Lib.hid hb04
    have HW4 := Lib.hid hw4
    have HQ := Lib.hid hq
    have HQW := Lib.hid (show w.heap.size ≤ q by have := HB3.out.size; omega)
    have HLE := Lib.hid hle
    clear hle hw4 hq hb4 W4 WV hn4 hb04
    go_upto_region 5 with fail
    rw [← HW4.out, ← HQ.out]
    go_wp2_with (with_reducible show wpList _ _ _ _ _ _; refine wpList_load_allW rfl 28 (.tmp 1) rfl ⟨g,0,none⟩ rfl x.cells _ KD4.out Tryz.underlying28 rfl (Tryz.evSize x) ?_)
    refine HWV.out.mono ?_
    rintro e w5 ⟨rfl, r5, hW5, hf5, hr5⟩
    have HB5 := Lib.hid (fr_new HB4.out HB4.out.size hf5 HQW.out (fun q e => by cases e))
    have BY := Lib.hid (bytes_any hW5 (by have := HLE.out; omega))
    clear hW5 hf5 hr5
    go_wp2_with fail
    refine BY.out.mono ?_
    rintro e w6 ⟨ao, c, rfl, own6, hb6⟩
    have RL := Lib.hid (show EencPost w x (.returned (.tuple #[.slice ao x.eb.length c, .int .i64 0])) w6 from ⟨HB5.out.trans (hb6.mono HB5.out.size), by
      rw [if_pos HR.out.symm]
      exact ⟨ao, c, rfl, own_base own6 HB5.out.size⟩⟩)
    clear own6 hb6
    go_wp2_with fail
    go_ret2
    exact RL.out
  · have RL := Lib.hid (show EencPost w x (.returned (.tuple #[.slice none 0 0, .int .i64 R])) w3 from ⟨HB3.out, by
      rw [if_neg (by rw [← HR.out]; exact h0), HR.out]⟩)
    go_wp2_with fail
    go_ret2
    exact RL.out
end Go.Proofs.YtnfobnnbeefeeaaGreatDoor.Wi
/- readKind. -/
namespace Go.Proofs.YtnfobnnbeefeeaaGreatDoor.Wi
open Go Go.RowKit
set_option linter.unusedVariables false
set_option linter.unusedSimpArgs false
def z11 : List Value := [.int .i64 0, .int .i64 0, .int .i64 0, .int .i64 0, .int .i64 0, .string ⟨#[]⟩, .string ⟨#[]⟩, .int .i64 0, .int .i64 0, .string ⟨#[]⟩, .slice none 0 0]
theorem zE_cells : zE.cells = z11 := rfl
theorem Ev.elevenZ (x : Ev) : z11.toArray.size = x.cells.toArray.size := by rw [← x.eleven]; rfl
def kE (kd : Int) : Ev := { zE with kind := kd }
def lit11 (kd : Int) : Array Value := #[.int .i64 0, .int .i64 0, .int .i64 kd, .int .i64 0, .int .i64 0, .string ⟨#[]⟩, .string ⟨#[]⟩, .int .i64 0, .int .i64 0, .string ⟨#[]⟩, .slice none 0 0]
theorem kE_cells (kd : Int) : (kE kd).cells.toArray = lit11 kd := rfl
theorem fe_z (e : Int) : fe e 0 = e := by
  unfold fe
  by_cases h : e = 0
  · rw [if_pos h, h]
  · rw [if_neg h]
def RkPost (w : World) (b : Nat) (r : Option Nat) (xs : List UInt8) (kd : Int) (k1 : Nat) (e1 : Int) (en : Ending) (w' : World) : Prop := en = .returned (.agg (kE kd).cells.toArray) ∧ Rd w' b r xs k1 e1 ∧ Fr w w' b none
theorem rk_end {w wz : World} {b g2 k1 : Nat} {r : Option Nat} {xs : List UInt8} {kd e1 : Int} {cs : Array Value} (hS : Rd wz b r xs k1 e1) (hF : Fr w wz b none) (hg2 : w.heap.size ≤ g2) (hb : b < w.heap.size) (hr : ∀ g, r = some g → g < w.heap.size) (hc : cs = (kE kd).cells.toArray) :
    RkPost w b r xs kd k1 e1 (.returned (.agg cs)) (wz.setRow g2 cs) := by
  subst hc
  have st : ∀ q, q ≠ g2 → (wz.setRow g2 (kE kd).cells.toArray).heap[q]? = wz.heap[q]? := fun q hq => setRow_other wz g2 q _ hq
  exact ⟨rfl, hS.keep (st b (by omega)) (fun g hg => st g (by have := hr g hg; omega)), ⟨hF.os, hF.tape, hF.output, by simpa using hF.size, fun q hq h1 h2 => (st q (by omega)).trans (hF.block q hq h1 h2)⟩⟩
set_option maxHeartbeats 8000000 in
set_option maxRecDepth 100000 in
theorem rkind_any {w : World} {b : Nat} {r : Option Nat} {xs : List UInt8} {k : Nat} {e : Int} (h : Rd w b r xs k e) (hsz : xs.length ≤ 140737488355328) :
    Calls Tryz.prog 128 #[.pointer (some ⟨b, 0, none⟩)] w (RkPost w b r xs ((rb xs k e).1.toNat : Int) (rb xs k e).2.1 (fe (rb xs k e).2.2 (if eKn ((rb xs k e).1.toNat : Int) = true then 0 else 9))) := by
  have hlt := h.lt
  have hrl := h.rlt
  obtain ⟨w1, hw1⟩ : ∃ w1, w1 = w.alloc (.cells z11.toArray 28) := ⟨_, rfl⟩
  obtain ⟨g2, hg2⟩ : ∃ g, g = w.heap.size := ⟨_, rfl⟩
  have hb1 : Below w.heap.size w w1 := by rw [hw1]; exact (Below.refl _ _).alloc (Nat.le_refl _) _
  have n1 : w1.heap[g2]? = some (.cells z11.toArray 28 (0, 0)) := by rw [hw1, hg2]; exact heap_alloc_new _ _
  have BY := Lib.hid (rbyte_any (h.below (B := 0) hb1) hsz)
  obtain ⟨X, hX⟩ : ∃ X, X = rb xs k e := ⟨_, rfl⟩
  rw [← hX] at BY ⊢
  obtain ⟨c, k1, e1⟩ := X
  dsimp only at BY ⊢
  obtain ⟨kd, hkd⟩ : ∃ kd : Int, kd = (c.toNat : Int) := ⟨_, rfl⟩
  have hkb : 0 ≤ kd ∧ kd < 256 := by have := c.toNat_lt; omega
  have ebv : bv c = .int .u8 kd := by rw [hkd]; rfl
  rw [ebv] at BY
  rw [← hkd]
  have KN := Lib.hid (known_any kd)
  obtain ⟨kn, hkn⟩ : ∃ kn, kn = eKn kd := ⟨_, rfl⟩
  rw [← hkn] at KN ⊢
  obtain ⟨ef, hef⟩ : ∃ ef, ef = fe e1 (if kn = true then 0 else 9) := ⟨_, rfl⟩
  rw [← hef]
  have HEF := Lib.hid hef
  clear hef
  have F1 := Lib.hid (show Fr w w1 b none by rw [hw1]; exact (Fr.refl _ _ _).alloc _)
  have N1 := Lib.hid n1
  have HW1 := Lib.hid (show w1 = w.alloc (.cells #[.int .i64 0, .int .i64 0, .int .i64 0, .int .i64 0, .int .i64 0, .string ⟨#[]⟩, .string ⟨#[]⟩, .int .i64 0, .int .i64 0, .string ⟨#[]⟩, .slice none 0 0] 28) from hw1)
  have HG2 := Lib.hid hg2
  have HL := Lib.hid (show b < w.heap.size ∧ w.heap.size ≤ g2 ∧ g2 < w1.heap.size from ⟨hlt, by omega, lt_of_rowK n1⟩)
  have HRL := Lib.hid hrl
  have SB := Lib.hid (show (Tryz.prog.info? 28).map (·.size) = some (lit11 kd).size by kernel_rfl)
  have ON := Lib.hid (show (lit11 kd).all (·.oneCell') = true by rw [← kE_cells]; exact (kE kd).cells_one)
  clear hlt hrl hw1 hg2 hb1 n1 h hX ebv hkd hkn
  go_enter Tryz.func128, Tryz.ntmps128
  go_upto_region 1 with fail
  rw [← HW1.out, ← HG2.out]
  go_wp2_with fail
  refine BY.out.mono ?_
  rintro q w2 ⟨rfl, hR2, hF2⟩
  have hl := HL.out
  have n2 := (hF2.block g2 hl.2.2 (by omega) (fun e => by cases e)).trans N1.out
  have HR2 := Lib.hid hR2
  have HF2 := Lib.hid (F1.out.trans (Or.inl rfl) hF2)
  have N2 := Lib.hid n2
  clear hR2 hF2 n2 hl
  go_wp2_with fail
  refine (KN.out _).mono ?_
  rintro q w3 ⟨rfl, hw3⟩
  have hw3' := hw3.symm
  subst hw3'
  clear hw3
  cases kn
  · obtain rfl : ef = fe e1 9 := HEF.out
    have FA := Lib.hid (fail_any HR2.out 9)
    go_wp2_with fail
    refine FA.out.mono ?_
    rintro q w4 ⟨rfl, hR4, hF4⟩
    have hl := HL.out
    have n4 := (hF4.block g2 (lt_of_rowK N2.out) (by omega) (fun e => by cases e)).trans N2.out
    have RL := Lib.hid (rk_end (kd := kd) (cs := lit11 kd) hR4 (HF2.out.trans (Or.inl rfl) hF4) hl.2.1 hl.1 HRL.out rfl)
    have N4 := Lib.hid n4
    clear hR4 hF4 n4 hl
    go_wp2_with (with_reducible show wpList _ _ _ _ _ _; refine wpList_store_whole rfl 28 (.tmp 2) (.tmp 13) rfl g2 28 z11.toArray (lit11 kd) rfl rfl N4.out SB.out rfl ON.out ?_)
    refine bodyPost_ret (results_cell_row rfl _ _ g2 28 (lit11 kd) (0, 0) _ rfl (setRow_heap _ g2 _ _ _ _ N4.out) Tryz.underlying28 rfl SB.out) rfl ?_
    exact RL.out
  · obtain rfl : ef = e1 := by rw [HEF.out]; exact fe_z _
    have hl := HL.out
    have RL := Lib.hid (rk_end (kd := kd) (cs := lit11 kd) HR2.out HF2.out hl.2.1 hl.1 HRL.out rfl)
    clear hl
    go_wp2_with (with_reducible show wpList _ _ _ _ _ _; refine wpList_store_whole rfl 28 (.tmp 2) (.tmp 13) rfl g2 28 z11.toArray (lit11 kd) rfl rfl N2.out SB.out rfl ON.out ?_)
    refine bodyPost_ret (results_cell_row rfl _ _ g2 28 (lit11 kd) (0, 0) _ rfl (setRow_heap _ g2 _ _ _ _ N2.out) Tryz.underlying28 rfl SB.out) rfl ?_
    exact RL.out
end Go.Proofs.YtnfobnnbeefeeaaGreatDoor.Wi
