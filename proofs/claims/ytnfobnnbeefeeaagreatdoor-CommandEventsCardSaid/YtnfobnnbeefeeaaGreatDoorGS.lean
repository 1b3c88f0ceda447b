/- write. -/
import Derived.Test.YtnfobnnbeefeeaaGreatDoorGR
import Derived.Test.YtnfobnnbeefeeaaGreatDoorGK
namespace Go.Proofs.YtnfobnnbeefeeaaGreatDoor.Wi
open Go Go.RowKit
set_option linter.unusedVariables false
set_option linter.unusedSimpArgs false
theorem Fr.beyond {a w w' : World} {b : Nat} {r : Option Nat} (h : Fr a w b r) (hB : Below w.heap.size w w') : Fr a w' b r :=
  ⟨hB.os.trans h.os, hB.tape.trans h.tape, hB.output.trans h.output, Nat.le_trans h.size hB.size, fun k hk h1 h2 => (hB.block k (Nat.lt_of_lt_of_le hk h.size)).trans (h.block k hk h1 h2)⟩
theorem Wrote.beyond {w w' w2 : World} {b : Nat} {r : Option Nat} {zs : List UInt8} (h : Wrote w w' b r zs) (hb : Below w'.heap.size w' w2) : Wrote w w2 b r zs := by
  obtain ⟨rc, Wc, Fc, qc⟩ := h
  exact ⟨rc, Wc.later hb, Fc.beyond hb, qc⟩
theorem fr_atC {w1 : World} {b g g4 N : Nat} {r : Option Nat} {x : Cm} {F : Sh} (n1 : w1.heap[g]? = some (.cells x.cells.toArray 42 (0, 0))) (n2 : w1.heap[g4]? = some (.cells F.cells.toArray 87 (0, 0))) (hbg : g ≠ b) (hrg : some g ≠ r) (hbg4 : g4 ≠ b) (hrg4 : some g4 ≠ r) (hx : x.At N w1) (hb : N ≤ b) (hr : ∀ q, r = some q → N ≤ q) (hN : N ≤ w1.heap.size) (W : World) (hF : Fr w1 W b r) :
    CmC W g x ∧ x.At N W ∧ ∀ (j : Nat) u, F.cells[j]? = some u → W.cell? ((⟨g4, 0, none⟩ : Addr).add j) = some u :=
  ⟨cmC ((hF.block g (lt_of_rowK n1) hbg hrg).trans n1), hx.keep fun k hk => hF.block k (by omega) (by omega) (fun e => by have := hr k e.symm; omega), rowS ((hF.block g4 (lt_of_rowK n2) hbg4 hrg4).trans n2)⟩
set_option maxHeartbeats 16000000 in
set_option maxRecDepth 100000 in
theorem cwrite_any (x : Cm) (N b : Nat) (r : Option Nat) (xs : List UInt8) (w : World) (hx : x.At N w) (hv : x.vE = 0) (hN : N ≤ w.heap.size) (hb : N ≤ b) (hr : ∀ g, r = some g → N ≤ g) (hW : Wr w b r xs) (hsz : xs.length + 1000 ≤ 140737488355328) (he : CB N w) :
    Calls Tryz.prog 74 #[.pointer (some ⟨b, 0, none⟩), .agg x.cells.toArray] w fun e w' => e = .returned (.tuple #[]) ∧ Wrote w w' b r (xs ++ x.cb) := by
  have FI := Cm.fits hv
  have fkn := FI.kn; have fti := FI.time; have fa0 := FI.a.1; have fb0 := FI.b.1; have ma := hx.a.2; have mb := hx.b.2; have fnm := FI.name.1
  have HFine := Lib.hid (fine FI.val.1)
  obtain ⟨w1, hw1⟩ : ∃ bx, bx = w.alloc (.cells x.cells.toArray 42) := ⟨_, rfl⟩
  obtain ⟨g, hg⟩ : ∃ bx, bx = w.heap.size := ⟨_, rfl⟩
  have bw1 : Below w.heap.size w w1 := by rw [hw1]; exact (Below.refl _ _).alloc (Nat.le_refl _) _
  have nw1 : w1.heap[g]? = some (.cells x.cells.toArray 42 (0, 0)) := by rw [hw1, hg]; exact heap_alloc_new _ _
  have Kw1 := Lib.hid (rowC nw1)
  have Cw1 := Lib.hid (cmC nw1)
  have Hw1 := Lib.hid hw1
  have Hg := Lib.hid hg
  have Bw1 := Lib.hid bw1
  have Nw1 := Lib.hid nw1
  clear hw1 hg bw1 nw1
  have hbg : g ≠ b := by have := hW.lt; have := Hg.out; omega
  have hrg : some g ≠ r := fun e => by have := hW.rlt g e.symm; have := Hg.out; omega
  have HLT := Lib.hid (show b < w.heap.size ∧ ∀ q, r = some q → q < w.heap.size from ⟨hW.lt, hW.rlt⟩)
  have W1 : Wr w1 b r xs := by rw [Hw1.out]; exact hW.alloc _
  have F1 : Fr w w1 b r := by rw [Hw1.out]; exact (Fr.refl w b r).alloc _
  have AB := Lib.hid (cabout_any x.kind hx.kind w1 ((he.on (Bw1.out.mono hN)).base (Nat.le_trans hN Bw1.out.size)))
  have HK := hasC x.kind
  have HFA := Lib.hid HK.a
  have HFB := Lib.hid HK.b
  have HFN := Lib.hid HK.n
  have HFV := Lib.hid HK.v
  obtain ⟨Q0, hQ0⟩ : ∃ Q0, Q0 = UInt8.ofNat x.kind.toNat :: enc x.time.toNat := ⟨_, rfl⟩
  obtain ⟨QA, hQA⟩ : ∃ QA, QA = oI (cA x.kind) (enc x.a.toNat) := ⟨_, rfl⟩
  obtain ⟨QB, hQB⟩ : ∃ QB, QB = oI (cB x.kind) (enc x.b.toNat) := ⟨_, rfl⟩
  obtain ⟨QN, hQN⟩ : ∃ QN, QN = oI (cN x.kind) (enc x.name.length ++ x.name) := ⟨_, rfl⟩
  obtain ⟨QV, hQV⟩ : ∃ QV, QV = oI (cV x.kind) x.val.vb := ⟨_, rfl⟩
  have heb : xs ++ x.cb = xs ++ Q0 ++ QA ++ QB ++ QN ++ QV := by
    unfold Cm.cb
    rw [hQ0, hQA, hQB, hQN, hQV]
    simp only [List.append_assoc, List.cons_append]
  rw [heb]
  have l0 : Q0.length ≤ 11 := by rw [hQ0]; have := enc_length x.time.toNat; simp; omega
  have lA : QA.length ≤ 10 := by rw [hQA]; exact oI_le (enc_length _)
  have lB : QB.length ≤ 10 := by rw [hQB]; exact oI_le (enc_length _)
  have lN : QN.length ≤ 74 := by rw [hQN]; refine oI_le ?_; have := enc_length x.name.length; simp; omega
  obtain ⟨fa, hfa⟩ : ∃ f, f = cA x.kind := ⟨_, rfl⟩
  obtain ⟨fb, hfb⟩ : ∃ f, f = cB x.kind := ⟨_, rfl⟩
  obtain ⟨fn, hfn⟩ : ∃ f, f = cN x.kind := ⟨_, rfl⟩
  obtain ⟨fv, hfv⟩ : ∃ f, f = cV x.kind := ⟨_, rfl⟩
  obtain ⟨F, hF⟩ : ∃ F, F = shK x.kind := ⟨_, rfl⟩
  rw [← hF, ← hfa] at HFA
  rw [← hF, ← hfb] at HFB
  rw [← hF, ← hfn] at HFN
  rw [← hF, ← hfv] at HFV
  rw [← hfa] at hQA
  rw [← hfb] at hQB
  rw [← hfn] at hQN
  rw [← hfv] at hQV
  rw [← hF] at AB
  have c0 := Cw1.out.c0
  have HQA := Lib.hid hQA
  have HQB := Lib.hid hQB
  have HQN := Lib.hid hQN
  have HQV := Lib.hid hQV
  have HQ0 := Lib.hid hQ0
  have HB := Lib.hid hb
  have HR := Lib.hid hr
  have HF1 := Lib.hid F1
  have HW1 := Lib.hid W1
  have HX := Lib.hid (hx.below (Bw1.out.mono hN))
  have HNE := Lib.hid (show g ≠ b ∧ some g ≠ r from ⟨hbg, hrg⟩)
  have HN1 := Lib.hid (show N ≤ w1.heap.size from Nat.le_trans hN Bw1.out.size)
  have FIDS := Lib.hid (show (1 ≤ x.kind ∧ x.kind ≤ 21) ∧ (0 ≤ x.time ∧ x.time ≤ 4611686018427387903) ∧ (0 ≤ x.a ∧ x.a ≤ 9223372036854775807) ∧ (0 ≤ x.b ∧ x.b ≤ 9223372036854775807) ∧ x.name.length ≤ 64 from ⟨by omega, fti, ⟨fa0, ma⟩, ⟨fb0, mb⟩, fnm⟩)
  have LL := Lib.hid (show xs.length + 1000 ≤ 140737488355328 ∧ Q0.length ≤ 11 ∧ QA.length ≤ 10 ∧ QB.length ≤ 10 ∧ QN.length ≤ 74 from ⟨hsz, l0, lA, lB, lN⟩)
  clear hQ0 hQA hQB hQN hQV heb l0 lA lB lN hfa hfb hfn hfv hF HK F1 W1 hbg hrg hb hr hW hx hv hN he FI fkn fti fa0 fb0 ma mb fnm hsz
  go_enter Tryz.func74, Tryz.ntmps74
  go_upto_region 1 with fail
  rw [← Hw1.out, ← Hg.out]
  go_wp2_with fail
  refine AB.out.mono ?_
  rintro e w2 ⟨rfl, hb2⟩
  obtain ⟨w3, hw3⟩ : ∃ bx, bx = w2.alloc (.cells F.cells.toArray 87) := ⟨_, rfl⟩
  obtain ⟨g3, hg3⟩ : ∃ bx, bx = w2.heap.size := ⟨_, rfl⟩
  have bw3 : Below w2.heap.size w2 w3 := by rw [hw3]; exact (Below.refl _ _).alloc (Nat.le_refl _) _
  have nw3 : w3.heap[g3]? = some (.cells F.cells.toArray 87 (0, 0)) := by rw [hw3, hg3]; exact heap_alloc_new _ _
  have Kw3 := Lib.hid (rowS nw3)
  have Hw3 := Lib.hid hw3
  have Hg3 := Lib.hid hg3
  have Bw3 := Lib.hid bw3
  have Nw3 := Lib.hid nw3
  clear hw3 hg3 bw3 nw3
  have B13 := Lib.hid (hb2.trans (Bw3.out.mono hb2.size))
  have HF3 := Lib.hid (show Fr w w3 b r from HF1.out.beyond B13.out)
  have HW3 := Lib.hid (show Wr w3 b r xs from HW1.out.later B13.out)
  have N13 := Lib.hid ((B13.out.block g (lt_of_rowK Nw1.out)).trans Nw1.out)
  have KC := Lib.hid (fr_atC (N := N) N13.out Nw3.out HNE.out.1 HNE.out.2 (by have := HLT.out.1; have := hb2.size; have := Bw1.out.size; have := Hg3.out; omega) (fun e => by have := HLT.out.2 g3 e.symm; have := hb2.size; have := Bw1.out.size; have := Hg3.out; omega)
    (HX.out.below (B13.out.mono HN1.out)) HB.out HR.out (Nat.le_trans HN1.out B13.out.size))
  have HN3 := Lib.hid (Nat.le_trans HN1.out B13.out.size)
  clear hb2 c0
  go_upto_region 2 with (with_reducible show wpList _ _ _ _ _ _; refine wpList_store_newW rfl 87 (.tmp 4) (.tmp 7) rfl 87 _ F.cells.toArray rfl rfl (Tryz.shSize' F) (by with_unfolding_all exact Sh.three F) F.cells_one ?_; rw [← Hw3.out, ← Hg3.out])
  have c0b := (KC.out w3 (Fr.refl _ _ _)).1.c0
  have kb := FIDS.out.1
  go_wp2_with fail
  refine (byte_one HW3.out w3.heap.size rfl x.kind (UInt8.ofNat x.kind.toNat) (u8_kd kb).symm (by have := LL.out.1; omega)).mono ?_
  rintro e w4 ⟨rfl, h4⟩
  have CU := Lib.hid h4
  clear h4 c0b kb
  obtain ⟨r4, W4, F4, q4⟩ := CU.out
  have c1 := (KC.out w4 F4).1.c1
  have bt := FIDS.out.2.1
  have NT := Lib.hid (num_one W4 w4.heap.size rfl x.time x.time.toNat (by omega) (by omega) (by have := LL.out.1; simp; omega))
  have F4h := Lib.hid F4
  have q4h := Lib.hid q4
  clear W4 F4 q4
  have bt1 := bt.1
  have bt2 : x.time < 9223372036854775808 := by omega
  clear bt
  go_wp2_with fail
  refine NT.out.mono ?_
  rintro e w5 ⟨rfl, h5⟩
  have C1 := Lib.hid (show Wrote w3 w5 b r (xs ++ Q0) from wrote_parts (Wrote.trans (xs := xs) F4h.out q4h.out h5) (by rw [HQ0.out]; simp only [List.append_assoc, List.cons_append, List.nil_append]))
  clear h5 c1 bt1 bt2 NT F4h q4h CU
  have kf := Lib.hid (KC.out w5 (by obtain ⟨_, _, F, _⟩ := C1.out; exact F)).2.2
  go_upto_if 21 with (first | (with_reducible show wpList _ _ _ _ _ _; refine wpList_load_allW rfl 87 (.tmp 4) rfl ⟨g3,0,none⟩ rfl F.cells _ kf.out Tryz.underlying87 rfl (Tryz.shSize F) ?_) | (with_reducible refine (HFA.out _).mono ?_; rintro _ uA ⟨rfl, huA⟩))
  have DA := Lib.hid (C1.out.beyond huA)
  clear kf huA C1
  go_cut [] (fun wx => Wrote w3 wx b r (xs ++ Q0 ++ QA))
  case first =>
    cases fa
    · have RL := Lib.hid (show Wrote w3 uA b r (xs ++ Q0 ++ QA) from wrote_parts DA.out (by rw [HQA.out]; show _ = _ ++ []; rw [List.append_nil]))
      go_wp2_with fail
      go_meet
      all_goals exact RL.out
    · obtain ⟨rc, Wc, Fc, qc⟩ := DA.out
      have cc := (KC.out uA Fc).1.c2
      have bi := FIDS.out.2.2.1
      have NT := Lib.hid (num_one Wc uA.heap.size rfl x.a x.a.toNat (by omega) (by omega) (by have := LL.out; simp only [List.length_append]; omega))
      have Fh := Lib.hid Fc
      have qh := Lib.hid qc
      have bi1 := bi.1
      have bi2 : x.a < 9223372036854775808 := by omega
      clear Wc Fc qc bi
      go_wp2_with fail
      refine NT.out.mono ?_
      rintro e wy ⟨rfl, hy⟩
      have RL := Lib.hid (show Wrote w3 wy b r (xs ++ Q0 ++ QA) from wrote_parts (Wrote.trans (xs := xs) Fh.out qh.out hy) (by rw [HQA.out]; simp only [oI, if_true, List.append_assoc]))
      clear hy
      go_wp2_with fail
      go_meet
      all_goals exact RL.out
  case rest =>
    obtain ⟨vA, rfl⟩ : ∃ wd : World, wd = wc := ⟨_, rfl⟩
    have C2 := Lib.hid hcut
    clear hcut DA
    have kf := Lib.hid (KC.out vA (by obtain ⟨_, _, F, _⟩ := C2.out; exact F)).2.2
    go_upto_if 29 with (first | (with_reducible show wpList _ _ _ _ _ _; refine wpList_load_allW rfl 87 (.tmp 4) rfl ⟨g3,0,none⟩ rfl F.cells _ kf.out Tryz.underlying87 rfl (Tryz.shSize F) ?_) | (with_reducible refine (HFB.out _).mono ?_; rintro _ uB ⟨rfl, huB⟩))
    have DB := Lib.hid (C2.out.beyond huB)
    clear kf huB C2
    go_cut [] (fun wx => Wrote w3 wx b r (xs ++ Q0 ++ QA ++ QB))
    case first =>
      cases fb
      · have RL := Lib.hid (show Wrote w3 uB b r (xs ++ Q0 ++ QA ++ QB) from wrote_parts DB.out (by rw [HQB.out]; show _ = _ ++ []; rw [List.append_nil]))
        go_wp2_with fail
        go_meet
        all_goals exact RL.out
      · obtain ⟨rc, Wc, Fc, qc⟩ := DB.out
        have cc := (KC.out uB Fc).1.c3
        have bi := FIDS.out.2.2.2.1
        have NT := Lib.hid (num_one Wc uB.heap.size rfl x.b x.b.toNat (by omega) (by omega) (by have := LL.out; simp only [List.length_append]; omega))
        have Fh := Lib.hid Fc
        have qh := Lib.hid qc
        have bi1 := bi.1
        have bi2 : x.b < 9223372036854775808 := by omega
        clear Wc Fc qc bi
        go_wp2_with fail
        refine NT.out.mono ?_
        rintro e wy ⟨rfl, hy⟩
        have RL := Lib.hid (show Wrote w3 wy b r (xs ++ Q0 ++ QA ++ QB) from wrote_parts (Wrote.trans (xs := xs) Fh.out qh.out hy) (by rw [HQB.out]; simp only [oI, if_true, List.append_assoc]))
        clear hy
        go_wp2_with fail
        go_meet
        all_goals exact RL.out
    case rest =>
      obtain ⟨vB, rfl⟩ : ∃ wd : World, wd = wc := ⟨_, rfl⟩
      have C3 := Lib.hid hcut
      clear hcut DB
      have kf := Lib.hid (KC.out vB (by obtain ⟨_, _, F, _⟩ := C3.out; exact F)).2.2
      go_upto_if 37 with (first | (with_reducible show wpList _ _ _ _ _ _; refine wpList_load_allW rfl 87 (.tmp 4) rfl ⟨g3,0,none⟩ rfl F.cells _ kf.out Tryz.underlying87 rfl (Tryz.shSize F) ?_) | (with_reducible refine (HFN.out _).mono ?_; rintro _ uN ⟨rfl, huN⟩))
      have DN := Lib.hid (C3.out.beyond huN)
      clear kf huN C3
      go_cut [] (fun wx => Wrote w3 wx b r (xs ++ Q0 ++ QA ++ QB ++ QN))
      case first =>
        cases fn
        · have RL := Lib.hid (show Wrote w3 uN b r (xs ++ Q0 ++ QA ++ QB ++ QN) from wrote_parts DN.out (by rw [HQN.out]; show _ = _ ++ []; rw [List.append_nil]))
          go_wp2_with fail
          go_meet
          all_goals exact RL.out
        · obtain ⟨rc, Wc, Fc, qc⟩ := DN.out
          have cc := (KC.out uN Fc).1.c4
          have NT := Lib.hid (wtext_any Wc (str x.name) (by have := LL.out; have := FIDS.out.2.2.2.2; rw [str_sizeX]; simp only [List.length_append]; omega))
          rw [str_sizeX, str_datE] at NT
          have Fh := Lib.hid Fc
          have qh := Lib.hid qc
          obtain ⟨S, hS⟩ : ∃ S, S = str x.name := ⟨_, rfl⟩
          rw [← hS] at cc NT
          clear Wc Fc qc hS
          go_wp2_with fail
          refine NT.out.mono ?_
          rintro e wy ⟨rfl, hy⟩
          have RL := Lib.hid (show Wrote w3 wy b r (xs ++ Q0 ++ QA ++ QB ++ QN) from wrote_parts (Wrote.trans (xs := xs) Fh.out qh.out hy) (by rw [HQN.out]; simp only [oI, if_true, List.append_assoc]))
          clear hy
          go_wp2_with fail
          go_meet
          all_goals exact RL.out
      case rest =>
        obtain ⟨vN, rfl⟩ : ∃ wd : World, wd = wc := ⟨_, rfl⟩
        have C4 := Lib.hid hcut
        clear hcut DN
        have kf := Lib.hid (KC.out vN (by obtain ⟨_, _, F, _⟩ := C4.out; exact F)).2.2
        go_upto_if 43 with (first | (with_reducible show wpList _ _ _ _ _ _; refine wpList_load_allW rfl 87 (.tmp 4) rfl ⟨g3,0,none⟩ rfl F.cells _ kf.out Tryz.underlying87 rfl (Tryz.shSize F) ?_) | (with_reducible refine (HFV.out _).mono ?_; rintro _ uV ⟨rfl, huV⟩))
        have DV := Lib.hid (C4.out.beyond huV)
        clear kf huV C4
        cases fv
        · have RL := Lib.hid (show Wrote w3 uV b r (xs ++ Q0 ++ QA ++ QB ++ QN ++ QV) from wrote_parts DV.out (by rw [HQV.out]; show _ = _ ++ []; rw [List.append_nil]))
          go_wp2_with fail
          go_end0
          exact ⟨rfl, Wrote.trans (xs := xs) HF3.out (Or.inl rfl) RL.out⟩
        · obtain ⟨rc, Wc, Fc, qc⟩ := DV.out
          have cc := (KC.out uV Fc).1.cv
          have av := (KC.out uV Fc).2.1.val
          have NT := Lib.hid (vwrite_any x.val N b rc _ uV av HFine.out.kin HFine.out.dpr (Nat.le_trans HN3.out Fc.size) HB.out (fun q hq => by
            rcases qc with rfl | ⟨q2, rfl, h2⟩
            · exact HR.out q hq
            · injection hq with hq; have := HN3.out; omega) Wc (by have := LL.out; have := HFine.out.vb; simp only [List.length_append]; omega))
          have Fh := Lib.hid Fc
          have qh := Lib.hid qc
          have cch := Lib.hid cc
          clear Wc Fc qc av cc
          go_wp2_with (with_reducible show wpList _ _ _ _ _ _; refine wpList_load_allW rfl 26 (.tmp 45) rfl ⟨g,5,none⟩ rfl x.val.cells _ cch.out Tryz.underlying26 rfl (Tryz.valSize x.val) ?_)
          refine NT.out.mono ?_
          rintro e wy ⟨rfl, hy⟩
          have RL := Lib.hid (show Wrote w3 wy b r (xs ++ Q0 ++ QA ++ QB ++ QN ++ QV) from wrote_parts (Wrote.trans (xs := xs) Fh.out qh.out hy) (by rw [HQV.out]; simp only [oI, if_true, List.append_assoc]))
          clear hy
          go_wp2_with fail
          go_end0
          exact ⟨rfl, Wrote.trans (xs := xs) HF3.out (Or.inl rfl) RL.out⟩
end Go.Proofs.YtnfobnnbeefeeaaGreatDoor.Wi
/- Encode. -/
namespace Go.Proofs.YtnfobnnbeefeeaaGreatDoor.Wi
open Go Go.RowKit
set_option linter.unusedVariables false
set_option linter.unusedSimpArgs false
theorem cb_len {x : Cm} (h : x.vE = 0) : x.cb.length ≤ 700 := by
  have FI := Cm.fits h
  have hv := (fine FI.val.1).vb
  have h1 := FI.name.1
  have e2 := enc_length x.time.toNat
  have e3 := oI_le (c := cA x.kind) (enc_length x.a.toNat)
  have e4 := oI_le (c := cB x.kind) (enc_length x.b.toNat)
  have e5 : (oI (cN x.kind) (enc x.name.length ++ x.name)).length ≤ 74 := oI_le (by have := enc_length x.name.length; simp; omega)
  have e7 : (oI (cV x.kind) x.val.vb).length ≤ 512 := oI_le hv
  unfold Cm.cb
  simp only [List.length_cons, List.length_append]
  omega
theorem cbL_len : ∀ {l : List Cm}, (∀ x ∈ l, x.vE = 0) → (cbL l).length ≤ 700 * l.length
  | [], _ => by simp [cbL]
  | x :: l, h => by
    have h1 := cb_len (h x (by simp))
    have h2 := cbL_len (l := l) fun y hy => h y (by simp [hy])
    rw [show cbL (x :: l) = x.cb ++ cbL l by simp [cbL], List.length_append, List.length_cons]
    omega
theorem cbL_take {l : List Cm} {j : Nat} {x : Cm} (h : l[j]? = some x) : cbL (l.take (j + 1)) = cbL (l.take j) ++ x.cb := by
  rw [List.take_add_one, h]
  simp [cbL]
theorem cbL_take_le (l : List Cm) (j : Nat) : (cbL (l.take j)).length ≤ (cbL l).length := by
  have h : cbL l = cbL (l.take j) ++ cbL (l.drop j) := by
    unfold cbL
    rw [← List.flatten_append, ← List.map_append, List.take_append_drop]
  rw [h, List.length_append]
  omega
theorem cbA_len {l : List Cm} (h : allE l = 0) : (cbA l).length ≤ 200000 := by
  obtain ⟨h1, h2⟩ := allE_ok h
  have h3 := cbL_len h2
  have h4 := enc_length l.length
  unfold cbA
  rw [List.length_append]
  omega
def CencPost (w : World) (l : List Cm) (e : Ending) (w' : World) : Prop :=
  Below w.heap.size w w' ∧ if allE l = 0 then ∃ ao c, e = .returned (.tuple #[.slice ao (cbA l).length c, .int .i64 0]) ∧ w'.ownsRow w.heap.size 5 1 (.slice ao (cbA l).length c) (cbA l).length (bvs (cbA l)) else e = .returned (.tuple #[.slice none 0 0, .int .i64 (allE l)])
def ceRel (w4 : World) (q : Nat) (l : List Cm) (i : Value) (wr : World) : Prop := ∃ j : Nat, i = .int .i64 (j : Int) ∧ j ≤ l.length ∧ Wrote w4 wr q none (enc l.length ++ cbL (l.take j))
set_option maxHeartbeats 8000000 in
set_option maxRecDepth 100000 in
theorem cencode_any (ao : Option Addr) (c : Nat) (l : List Cm) (N : Nat) (w : World) (hv : CL N w ao l) (hN : N ≤ w.heap.size) (he : CB N w) : Calls Tryz.prog 23 #[.slice ao l.length c] w (CencPost w l) := by
  have CA := Lib.hid (call_any ao c l N w hv hN (he.base hN))
  have HV := Lib.hid hv
  have HE := Lib.hid he
  have HN := Lib.hid hN
  have hll := hv.len
  obtain ⟨R, hR⟩ : ∃ R, R = allE l := ⟨_, rfl⟩
  rw [← hR] at CA
  have HR := Lib.hid hR
  clear hR hv he hN
  go_enter Tryz.func23, Tryz.ntmps23
  go_wp2_with fail
  refine CA.out.mono ?_
  rintro e w3 ⟨rfl, hb3⟩
  have HB3 := Lib.hid hb3
  clear hb3
  by_cases h0 : R = 0
  case neg =>
    have h1 : (R != 0) = true := by simpa using h0
    have RL := Lib.hid (show CencPost w l (.returned (.tuple #[.slice none 0 0, .int .i64 R])) w3 from ⟨HB3.out, by rw [if_neg (by rw [← HR.out]; exact h0), HR.out]⟩)
    go_wp2_with fail
    go_ret2
    exact RL.out
  subst h0
  obtain ⟨hl256, hok⟩ := allE_ok HR.out.symm
  have hle := cbA_len HR.out.symm
  obtain ⟨w4, hw4⟩ : ∃ w4, w4 = w3.alloc (.cells #[.slice none 0 0] 93) := ⟨_, rfl⟩
  obtain ⟨q, hq⟩ : ∃ q, q = w3.heap.size := ⟨_, rfl⟩
  have hb4 : Below w3.heap.size w3 w4 := by rw [hw4]; exact (Below.refl _ _).alloc (Nat.le_refl _) _
  have W4 : Wr w4 q none [] := by rw [hw4, hq]; exact Wr.new w3
  have HB4 := Lib.hid (HB3.out.trans (hb4.mono HB3.out.size))
  have NT := Lib.hid (num_one W4 w4.heap.size rfl (l.length : Int) l.length rfl (by omega) (by simp))
  have HW4 := Lib.hid hw4
  have HQ := Lib.hid hq
  have HQW := Lib.hid (show w.heap.size ≤ q by have := HB3.out.size; omega)
  have HLE := Lib.hid hle
  have HOK := Lib.hid hok
  have FIN := Lib.hid (show ∀ W zs, Wrote w4 W q none zs → Below w.heap.size w W from fun W zs h => by
    obtain ⟨r5, hW5, hf5, hr5⟩ := h
    exact fr_new HB4.out HB4.out.size hf5 HQW.out (fun q e => by cases e))
  have i1 : (0 : Int) ≤ (l.length : Int) := by omega
  have i2 : (l.length : Int) < 18446744073709551616 := by omega
  have i3 : (l.length : Int) < 9223372036854775808 := by omega
  clear hw4 hq hb4 W4 hle hok CA
  go_upto_region 5 with fail
  rw [← HW4.out, ← HQ.out]
  go_wp2_with fail
  refine NT.out.mono ?_
  rintro e w5 ⟨rfl, h5⟩
  rw [List.nil_append] at h5
  have R0 := Lib.hid (show ceRel w4 q l (.int .i64 0) w5 from ⟨0, rfl, Nat.zero_le _, by simpa [cbL] using h5⟩)
  clear h5 NT
  go_wp2_with fail
  go_loopw [20] (fun i wr => ceRel w4 q l i wr) (fun i _ => l.length - (intOf i).toNat)
  case atStart => exact R0.out
  case round =>
    obtain ⟨wq, rfl⟩ : ∃ wq : World, wq = wr := ⟨_, rfl⟩
    obtain ⟨j, rfl, hj, hwr⟩ := hrel
    have q0 : (0 : Int) ≤ (j : Int) := by omega
    have HWR := Lib.hid hwr
    clear hwr R0
    by_cases hjl : j < l.length
    · have q2 : (j : Int) < (l.length : Int) := by omega
      obtain ⟨x, hx⟩ : ∃ x, l[j]? = some x := ⟨_, List.getElem?_eq_getElem hjl⟩
      obtain ⟨hxv, ad, rfl, had, hxc⟩ := HV.out.elem hx
      have BQ := FIN.out wq _ HWR.out
      have nb : ∀ k, k < N → wq.heap[k]? = w.heap[k]? := fun k hk => BQ.block k (Nat.lt_of_lt_of_le hk HN.out)
      have KX := Lib.hid (hxc wq nb)
      obtain ⟨w6, hw6⟩ : ∃ bx, bx = wq.alloc (.cells x.cells.toArray 42) := ⟨_, rfl⟩
      obtain ⟨g6, hg6⟩ : ∃ bx, bx = wq.heap.size := ⟨_, rfl⟩
      have bw6 : Below wq.heap.size wq w6 := by rw [hw6]; exact (Below.refl _ _).alloc (Nat.le_refl _) _
      have nw6 : w6.heap[g6]? = some (.cells x.cells.toArray 42 (0, 0)) := by rw [hw6, hg6]; exact heap_alloc_new _ _
      have Kw6 := Lib.hid (rowC nw6)
      have Cw6 := Lib.hid (cmC nw6)
      have Hw6 := Lib.hid hw6
      have Hg6 := Lib.hid hg6
      have Bw6 := Lib.hid bw6
      have Nw6 := Lib.hid nw6
      clear hw6 hg6 bw6 nw6
      have h6 := HWR.out.beyond Bw6.out
      have B6 := FIN.out w6 _ h6
      have hlt : (enc l.length ++ cbL (l.take j)).length ≤ 200000 := by
        have h1 := cbL_take_le l j
        have h2 := HLE.out
        unfold cbA at h2
        rw [List.length_append] at h2 ⊢
        omega
      obtain ⟨r6, W6, F6, q6⟩ := id h6
      have CWR := Lib.hid (cwrite_any x N q r6 _ w6 (hxv.below (B6.mono HN.out)) (HOK.out x (List.mem_of_getElem? hx)) (Nat.le_trans HN.out B6.size) (Nat.le_trans HN.out HQW.out) (fun g hg => by
        rcases q6 with rfl | ⟨g2, rfl, h2⟩
        · cases hg
        · injection hg with hg; have := HB4.out.size; have := HN.out; omega) W6 (by omega) (HE.out.on (B6.mono HN.out)))
      have F6h := Lib.hid F6
      have q6h := Lib.hid q6
      have HXX := Lib.hid (cbL_take hx)
      clear hxv hxc had hx nb BQ h6 B6 hlt W6 F6 q6
      go_wp2_with (first
        | (with_reducible show wpList _ _ _ _ _ _; refine wpList_load_allW rfl 42 (.tmp 22) rfl _ rfl x.cells _ KX.out Tryz.underlying42 rfl (Tryz.cmSize x) ?_)
        | (with_reducible show wpList _ _ _ _ _ _; refine wpList_store_newW rfl 42 (.tmp 7) (.tmp 23) rfl 42 _ x.cells.toArray rfl rfl (Tryz.cmSize' x) (by with_unfolding_all exact Cm.nine x) x.cells_one ?_; rw [← Hw6.out, ← Hg6.out])
        | (with_reducible show wpList _ _ _ _ _ _; refine wpList_load_allW rfl 42 (.tmp 7) rfl ⟨g6,0,none⟩ rfl x.cells _ Kw6.out Tryz.underlying42 rfl (Tryz.cmSize x) ?_))
      refine CWR.out.mono ?_
      rintro e w7 ⟨rfl, h7⟩
      have RL := Lib.hid (show ceRel w4 q l (.int .i64 ((j + 1 : Nat) : Int)) w7 from ⟨j + 1, rfl, hjl, by rw [HXX.out, ← List.append_assoc]; exact Wrote.trans (xs := []) F6h.out q6h.out h7⟩)
      clear h7
      go_wp2_with fail
      exact ⟨RL.out, by simp [intOf]; omega⟩
    · have q2 : ¬ (j : Int) < (l.length : Int) := by omega
      have hz : enc l.length ++ cbL (l.take j) = cbA l := by rw [List.take_of_length_le (by omega)]; rfl
      have h8 := HWR.out
      rw [hz] at h8
      have HB8 := Lib.hid (FIN.out wq _ h8)
      obtain ⟨r5, hW5, hf5, hr5⟩ := h8
      have BY := Lib.hid (bytes_any hW5 (by have := HLE.out; omega))
      clear hW5 hf5 hr5 hz
      go_wp2_with fail
      refine BY.out.mono ?_
      rintro e w6 ⟨ao6, c6, rfl, own6, hb6⟩
      have RL := Lib.hid (show CencPost w l (.returned (.tuple #[.slice ao6 (cbA l).length c6, .int .i64 0])) w6 from ⟨HB8.out.trans (hb6.mono HB8.out.size), by
        rw [if_pos HR.out.symm]
        exact ⟨ao6, c6, rfl, own_base own6 HB8.out.size⟩⟩)
      clear own6 hb6
      go_wp2_with fail
      go_ret2
      exact RL.out
end Go.Proofs.YtnfobnnbeefeeaaGreatDoor.Wi
