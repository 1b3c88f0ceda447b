/- The reference's SHA-256: its walk. -/
import Derived.Test.YtnfobnnbeefeeaaGreatDoorGS8
namespace Go.Proofs.YtnfobnnbeefeeaaGreatDoor.Sm
open Go Go.RowKit
set_option linter.unusedVariables false

set_option maxRecDepth 100000 in
set_option maxHeartbeats 16000000 in
theorem refOf_any (w : World) (s : ByteArray) (hs : s.size ≤ 1000000) : Calls Tryz.prog 16 #[.string s] w fun e w' => e = .returned (.agg (bvs (shaR S0 K0 s.data.toList)).toArray) ∧ Below w.heap.size w w' := by
  obtain ⟨iu, hiu, hu0, hu1, hu2⟩ := info_parts Tryz.infoU32
  obtain ⟨l, hl⟩ : ∃ l, l = s.data.toList := ⟨_, rfl⟩
  have hsl : s = str l := by apply ByteArray.ext; rw [hl]; simp [str]
  have hln : l.length = s.size := by rw [hl]; rfl
  rw [← hl]
  subst hsl
  rw [str_size] at hs
  have hss := str_size l
  obtain ⟨n, hn⟩ : ∃ n, n = l.length := ⟨_, rfl⟩
  rw [← hn] at hs hss
  have hnI : (n : Int) ≤ 1000000 := by omega
  have HN := Lib.hid hn
  clear hl hln hn
  go_enter Tryz.func16, Tryz.ntmps16
  go_wp2_with fail
  refine (list_any _).mono ?_
  rintro e w1 ⟨rfl, rfl⟩
  obtain ⟨w2, hw2⟩ : ∃ w2, w2 = (w.alloc (.cells Z32.toArray 22)).alloc (.cells (u32s K0).toArray 81) := ⟨_, rfl⟩
  have B2 : Below w.heap.size w w2 := by rw [hw2]; exact ((Below.refl _ _).alloc (Nat.le_refl _) _).alloc (by simp) _
  have z2 : w2.heap[w.heap.size]? = some (.cells Z32.toArray 22 (0, 0)) := by rw [hw2, Below.heap_alloc _ _ _ (by simp)]; exact heap_alloc_new w _
  have k2 : w2.heap[w.heap.size + 1]? = some (.cells (u32s K0).toArray 81 (0, 0)) := by
    have := heap_alloc_new (w.alloc (.cells Z32.toArray 22)) (.cells (u32s K0).toArray 81)
    rw [World.size_alloc] at this
    rw [hw2]; exact this
  have n2 : w2.heap.size = w.heap.size + 2 := by rw [hw2]; simp
  rw [Z32_eq] at hw2
  rw [← hw2]
  have Z2 := Lib.hid z2
  have K2 := Lib.hid k2
  have N2 := Lib.hid n2
  clear hw2 z2 k2 n2
  go_wp2_with fail
  have zm : ∃ t, t = 64 - (n + 8) % 64 := ⟨_, rfl⟩
  obtain ⟨t, ht⟩ := zm
  have ht0 : 0 < t := by omega
  have ht64 : t ≤ 64 := by omega
  have hres : ∀ z, z ≤ t - 1 → ((n + 1 + z) % 64 = 56 ↔ z = t - 1) := by intro z hz; omega
  have HRES := Lib.hid hres
  have HTT := Lib.hid ht
  have HNP := Lib.hid (show str l ++ ⟨#[128]⟩ = str (padZ l 0) by
    rw [show (⟨#[128]⟩ : ByteArray) = str [128] from rfl, str_app]; rfl)
  clear hres ht
  go_loopw [0] (fun v wr => OaRel l t v w2 wr) (fun v _ => 2000000 - lenS v)
  case atStart => exact ⟨0, congrArg Value.string HNP.out, Nat.zero_le _, rfl⟩
  case round =>
    obtain ⟨z, rfl, hz, hwr⟩ := hrel
    obtain rfl := hwr.symm
    have hsz := str_size (padZ l z)
    have hpl := padZ_length l z
    rw [← HN.out] at hpl
    rw [hpl] at hsz
    have hps : str (padZ l z) ++ ⟨#[0]⟩ = str (padZ l (z + 1)) := by
      rw [show (⟨#[0]⟩ : ByteArray) = str [0] from rfl, str_app, padZ_succ]
    have HPS := Lib.hid hps
    have HLS := Lib.hid (show lenS (Value.string (str (padZ l (z + 1)))) = n + 1 + (z + 1) by show (str (padZ l (z + 1))).size = _; rw [str_size, padZ_length, ← HN.out])
    have HLS0 := Lib.hid (show lenS (Value.string (str (padZ l z))) = n + 1 + z by show (str (padZ l z)).size = _; rw [str_size, hpl])
    have hr := HRES.out z hz
    have hnz : n + 1 + z < 2000000 := by omega
    clear hps hpl
    by_cases hzt : z = t - 1
    · have hm : ((n + 1 + z : Nat) : Int) % 64 = 56 := by have := hr.2 hzt; omega
      obtain ⟨N, hN⟩ : ∃ N, N = n + 1 + z := ⟨_, rfl⟩
      rw [← hN] at hm hsz
      have HZT := Lib.hid hzt
      clear hr hzt
      go_wp2_with fail
      have hx0 : (n : Int) * 8 = ((8 * n / 2 ^ (8 * 0) : Nat) : Int) := by simp; omega
      have HX0 := Lib.hid hx0
      have HZN := Lib.hid hz
      clear hx0 hm hz
      generalize hpz : padZ l z = pz at *
      have HPZ := Lib.hid hpz
      clear hpz
      have HNZ := Lib.hid hN
      have hNb : N ≤ 2000000 := by omega
      clear hN HPS HLS HLS0 HNP
      go_loopw [4, 5, 6] (fun x v u wr' => ObRel n w2 x v u wr') (fun _ _ u _ => 8 - (intOf u).toNat)
      case atStart => exact ⟨0, rfl, Nat.zero_le _, by rw [HX0.out], rfl, Below.refl _ _⟩
      case round =>
        obtain ⟨i, rfl, hi, rfl, rfl, hBr⟩ := hrel
        by_cases hi8 : i < 8
        · obtain ⟨y, hy⟩ : ∃ y, y = 8 * n / 2 ^ (8 * i) := ⟨_, rfl⟩
          have hfl : (flb n i).toNat = y % 256 := by unfold flb; rw [← hy, UInt8.toNat_ofNat']
          have hy2 : 8 * n / 2 ^ (8 * (i + 1)) = y / 256 := by
            rw [hy, Nat.div_div_eq_div_mul]
            congr 1
            rw [show 8 * (i + 1) = 8 * i + 8 by omega, Nat.pow_add]
          have hyl : y ≤ 8000000 := by
            have : y ≤ 8 * n := by rw [hy]; exact Nat.div_le_self _ _
            omega
          have htl : tlr n (i + 1) = flb n i :: tlr n i := rfl
          have hts : (tlr n i).length = i := by
            have : ∀ i, (tlr n i).length = i := by
              intro i
              induction i with
              | zero => rfl
              | succ i ih => simp [tlr, ih]
            exact this i
          rw [← hy]
          have hap : str [flb n i] ++ str (tlr n i) = str (tlr n (i + 1)) := by rw [str_app, htl]; rfl
          have s1 : (str [flb n i]).size = 1 := str_size _
          have s2 : (str (tlr n i)).size = i := by rw [str_size, hts]
          generalize tlr n i = T0 at *
          generalize flb n i = b at *
          have hxm : (y : Int) % 256 = ((b.toNat : Nat) : Int) := by omega
          have cv : (convert 36 9 (.slice (some ⟨wr.heap.size, 0, none⟩) 1 1)).run Tryz.prog (wr.alloc (.cells #[.int .u8 ((b.toNat : Nat) : Int)] 5)) = .ok (.string (str [b])) (wr.alloc (.cells #[.int .u8 ((b.toNat : Nat) : Int)] 5)) := (Bs.ofRow (l := [b]) rfl (Nat.le_refl _) (heap_alloc_new wr _)).str
          have hov : ¬ 9223372036854775807 < 1 + i := by omega
          have HAP := Lib.hid hap
          have HY2 := Lib.hid hy2
          have hyI : (y : Int) ≤ 8000000 := by omega
          clear hap hy2 hfl htl hts hy
          go_wp2_with fail
          refine ⟨⟨i + 1, by go_num, by omega, by rw [HY2.out]; simp, congrArg Value.string HAP.out, hBr.alloc hBr.size _⟩, by simp [intOf]; omega⟩
        · obtain rfl : i = 8 := by omega
          rw [tlr_8, show ((8 : Nat) : Int) = 8 from rfl]
          generalize 8 * n / 2 ^ (8 * 8) = y8 at *
          have hap : str pz ++ str (be8 n) = str (padded l) := by
            rw [str_app, ← HPZ.out, HZT.out, HTT.out, HN.out]
            congr 1
            unfold padZ padded
            rw [List.append_assoc]
            rfl
          have s2 : (str (be8 n)).size = 8 := str_size _
          have hpl := str_size (padded l)
          have hplen := padded_length l
          have hpn : (padded l).length = N + 8 := by
            have h1 := congrArg ByteArray.size hap
            rw [str_size] at h1
            have h2 : (str pz ++ str (be8 n)).size = (str pz).size + (str (be8 n)).size := by rw [str_app, str_size, str_size, str_size, List.length_append]
            omega
          have hov : ¬ 9223372036854775807 < N + 8 := by omega
          have HPL := Lib.hid hplen
          have HPN := Lib.hid hpn
          generalize be8 n = T8 at *
          obtain ⟨P, hP⟩ : ∃ P, P = padded l := ⟨_, rfl⟩
          rw [← hP] at hap
          have HP := Lib.hid hP
          have HAP := Lib.hid hap
          have HBr := Lib.hid hBr
          have zr := hBr.size
          have zN2 := N2.out
          clear hap hpl hplen hpn hP hBr hi8 hi
          go_wp2_with fail
          rw [HAP.out]
          obtain ⟨w3, hw3⟩ : ∃ w3, w3 = wr.alloc (.cells #[.int .u32 1779033703, .int .u32 3144134277, .int .u32 1013904242, .int .u32 2773480762, .int .u32 1359893119, .int .u32 2600822924, .int .u32 528734635, .int .u32 1541459225] 81) := ⟨_, rfl⟩
          rw [← hw3]
          have h3 : w3.heap[wr.heap.size]? = some (.cells (u32s S0).toArray 81 (0, 0)) := by rw [hw3]; exact heap_alloc_new wr _
          have B3 : Below w2.heap.size w2 w3 := by rw [hw3]; exact HBr.out.alloc zr _
          have n3 : w3.heap.size = wr.heap.size + 1 := by rw [hw3]; simp
          have k3 := Lib.hid ((B3.block _ (by omega)).trans K2.out)
          have z3 := Lib.hid ((B3.block _ (by omega)).trans Z2.out)
          generalize hgh : wr.heap.size = gh at *
          have H3 := Lib.hid h3
          have HB3 := Lib.hid B3
          have N3 := Lib.hid n3
          have hszP : (str P).size = N + 8 := by rw [← HAP.out, str_app, str_size, List.length_append, ← str_size pz, ← str_size T8, hsz, s2]
          have g2 : w.heap.size + 2 ≤ gh := by omega
          have hM : ∃ M, N + 8 = 64 * M := ⟨(padded l).length / 64, by rw [← HPN.out]; exact HPL.out⟩
          obtain ⟨M, hM⟩ := hM
          have HM := Lib.hid hM
          have hNM : (N : Int) + 8 = 64 * (M : Int) := by omega
          clear hw3 h3 B3 n3 hgh hM hov s2 hsz zN2 zr HBr
          refine loopC (w := w) (n := n) hiu hu0 hu1 hu2 HP HPL HPN HM hNM hNb hszP (by omega) k3 H3 N3 ?_
          intro wo x9 x10 x11 x12 x13 x14 x15 x16 x17 x18 x19 x20 x21 x22 x57 x58 x59 x60 x61 x62 x63 x64 x65 x66 x67 x68 x69 x70 x71 x72 x73 x74 x75 x76 x77 x78 x79 x80 x81 x82 x83 x84 x85 x86 x87 x88 x89 x90 x91 x92 x93 x94 x95 x96 x97 x98 x99 x100 x101 x102 x103 x104 x105 x106 x107 x108 x109 x110 x111 x112 x113 x114 x115 x116 x117 x118 x119 x120 x121 x122 x123 x124 x125 x126 x127 x128 x129 x130 x131 x132 x133 x134 x135 x136 x137 x138 x139 x140 x141 x142 x143 x144 x145 x146 x147 x148 x149 x150 x151 x152 x153 x154 x155 x156 x157 x158 x159 x160 x161 x162 x163 x164 x165 x166 x167 x168 x169 x170 x171 x172 x173 x174 x175 x176 x177 x178 x179 x180 x181 x182 x183 x184 x185 x186 x187 x188 x189 x190 x191 x192 x193 x194 x195 x196 x197 x198 x199 x200 x201 x202 x203 x204 x205 x206 x207 x208 x209 x210 x211 x212 x213 x214 x215 x216 x217 x218 x219 x220 x221 x222 x223 x224 x225 x226 x227 x228 x229 x230 x231 x232 x233 x234 x235 x236 x237 x238 x239 x240 x241 x242 x243 x244 x245 x246 x247 x248 x249 x250 x251 x252 x253 x254 x255 x256 x257 x258 x259 x260 x261 x262 x263 x264 x265 x266 x267 x268 x269 x270 x271 x272 x273 x274 x275 x276 x277 x278 x279 x280 x281 hgh hR
          obtain ⟨m, hmM⟩ : ∃ m, m = M := ⟨_, rfl⟩
          rw [← hmM] at hgh ⊢
          have hmI : ¬ 64 * (m : Int) < (N : Int) + 8 := by omega
          obtain ⟨l8, hl8e⟩ : ∃ l8, l8 = blocksR K0 S0 P m := ⟨_, rfl⟩
          have hl8 : l8.length = 8 := by rw [hl8e]; exact blocksR_length K0 S0 P rfl m
          have hll := blocksR_lt K0 S0 P S0_lt m
          rw [← hl8e] at hgh hll
          have hsha : ob l8 = shaR S0 K0 l := by
            have hPl : P.length = 64 * M := by rw [HP.out, HPN.out, HM.out]
            have h64 : (64 * M) / 64 = m := by omega
            unfold shaR
            rw [← HP.out, hPl, h64, hl8e]
          have HSHA := Lib.hid hsha
          have HL8 := Lib.hid hl8
          have HLL := Lib.hid hll
          have HGH := Lib.hid hgh
          have HRR := Lib.hid hR
          have zz := Lib.hid ((hR.block w.heap.size (by have := N3.out; omega) (by omega)).trans z3.out)
          have hBw : Below w.heap.size w wo := by
            have z1 := N3.out
            exact (B2.trans (HB3.out.mono B2.size)).trans ⟨hR.os, hR.tape, hR.output, hR.size, fun k hk => hR.block k (by omega) (by omega)⟩
          have HBW := Lib.hid hBw
          have sz := Lib.hid (show (Tryz.prog.info? 22).map (·.size) = some Z32.toArray.size by kernel_rfl)
          have s1 := Lib.hid (show Z32.toArray.all (·.oneCell') = true by kernel_rfl)
          have nb := Lib.hid (heap_alloc_new wo (.cells Z32.toArray 22))
          clear hgh hll hl8 hl8e hsha hR hBw
          go_wp2_with (refine wpList_store_all rfl 22 (.tmp 23) (.tmp 282) rfl wo.heap.size 22 Z32.toArray Z32.toArray rfl rfl nb.out sz.out rfl s1.out ?_)
          obtain ⟨wp, hwp⟩ : ∃ wp, wp = (wo.alloc (.cells Z32.toArray 22)).setRow wo.heap.size Z32.toArray := ⟨_, rfl⟩
          have q1 : wp.heap[wo.heap.size]? = some (.cells Z32.toArray 22 (0, 0)) := by rw [hwp]; exact setRow_heap _ _ _ _ _ (0, 0) nb.out
          have q2 : Below wo.heap.size wo wp := by rw [hwp]; exact below_setRow ((Below.refl _ _).alloc (Nat.le_refl _) _) (Nat.le_refl _) _
          rw [← Z32_eq, ← hwp]
          have hgo : wo.heap.size < wp.heap.size := (Array.getElem?_eq_some_iff.1 q1).1
          have hghl : gh < wo.heap.size := (Array.getElem?_eq_some_iff.1 HGH.out).1
          have hw0l : w.heap.size < gh := by omega
          generalize wo.heap.size = go at *
          have HGH2 := Lib.hid ((q2.block _ hghl).trans HGH.out)
          have ZZ2 := Lib.hid ((q2.block _ (by omega)).trans zz.out)
          have HBW2 := Lib.hid (HBW.out.trans (q2.mono (by omega)))
          have Q1 := Lib.hid q1
          clear hwp q1 q2 nb zz HBW HGH
          go_loopw [24, 25, 26] (fun u _ _ wr' => OiRel wp go l8 u wr') (fun u _ _ _ => 8 - (intOf u).toNat)
          case atStart => exact ⟨0, rfl, Nat.zero_le _, by rw [Q1.out]; rfl, Below.refl _ _⟩
          case round =>
            clear Q1
            obtain ⟨wi, rfl⟩ : ∃ wi : World, wi = wr := ⟨_, rfl⟩
            obtain ⟨i, rfl, hi, hrow, hBi⟩ := hrel
            by_cases hi8 : i < 8
            · have hgi : wi.heap[gh]? = some (.cells (u32s l8).toArray 81 (0, 0)) := (hBi.block _ hghl).trans HGH2.out
              have a0 : wi.cell? ⟨gh, i, none⟩ = some (.int .u32 ((l8.getD i 0 : Nat) : Int)) := by
                rw [cell_of_row wi _ i _ _ _ hgi]
                simpa using u32s_get l8 i (by rw [HL8.out]; exact hi8)
              have hxl : l8.getD i 0 < 4294967296 := getD_lt HLL.out i
              have hj4 := Lib.hid (jb_4 l8 HL8.out i hi8)
              have hLl : (obTo l8 i).length = 32 := by
                unfold obTo
                rw [List.length_append, ob_length, List.length_take, HL8.out, List.length_replicate]
                omega
              have HROW := Lib.hid hrow
              have HBI := Lib.hid hBi
              generalize obTo l8 i = L at *
              generalize l8.getD i 0 = x at *
              have HLl := Lib.hid hLl
              have ii8 : (i : Int) < 8 := by omega
              clear hrow hBi hgi hLl
              go_wp2_with fail
              go_loopw [25, 26] (fun v u wr' => OjRel wi go L i x v u wr') (fun _ u _ => (intOf u + 1).toNat)
              case atStart => exact ⟨0, rfl, Nat.zero_le _, by simp, HROW.out, Below.refl _ _⟩
              case round =>
                obtain ⟨wj, rfl⟩ : ∃ wj : World, wj = wr := ⟨_, rfl⟩
                obtain ⟨t, rfl, ht, rfl, hrow, hBj⟩ := hrel
                by_cases ht4 : t < 4
                · have hs : jb L i x (t + 1) = (jb L i x t).set (4 * i + (3 - t)) (UInt8.ofNat (x / 256 ^ t)) := rfl
                  have hdd : x / 256 ^ (t + 1) = x / 256 ^ t / 256 := by rw [Nat.pow_succ, Nat.div_div_eq_div_mul]
                  have hbl : x / 256 ^ t < 4294967296 := Nat.lt_of_le_of_lt (Nat.div_le_self _ _) hxl
                  have hjl := jb_length L i x t
                  rw [HLl.out] at hjl
                  have hq32 : 4 * i + (3 - t) < 32 := by omega
                  have hqL : 4 * (i : Int) + (3 - (t : Int)) < 32 := by omega
                  have hq0 : 0 ≤ 4 * (i : Int) + (3 - (t : Int)) := by omega
                  have gf := frozen_of_row wj go (4 * i + (3 - t)) _ _ hrow
                  have gc : wj.cell? ⟨go, 4 * i + (3 - t), none⟩ = some (.int .u8 ((((jb L i x t).getD (4 * i + (3 - t)) 0).toNat : Nat) : Int)) := by
                    rw [cell_of_row wj _ _ _ _ _ hrow]
                    simp [bvs, List.getD, hjl, hq32]
                    rfl
                  generalize (jb L i x t).getD (4 * i + (3 - t)) 0 = b0 at *
                  clear hq32 hjl
                  generalize x / 256 ^ t = y at *
                  have hy8 : (y : Int) % 256 = (((UInt8.ofNat y).toNat : Nat) : Int) := by rw [UInt8.toNat_ofNat']; omega
                  have HJS := Lib.hid hs
                  have HDD := Lib.hid hdd
                  have HR2 := Lib.hid hrow
                  have HBJ := Lib.hid hBj
                  have tt4 : (t : Int) < 4 := by omega
                  have HY8 := Lib.hid hy8
                  clear hs hdd hrow hBj hy8
                  go_wp2_with fail
                  all_goals refine ⟨⟨t + 1, val_i64 (by omega), by omega, val_u32n (by rw [HDD.out]; simp), ?_, HBJ.out.setCell (by simp) _⟩, by simp [intOf]; omega⟩
                  all_goals rw [heap_setCell_same wj go (4 * i + (3 - t)) _ _ _ HR2.out, HJS.out, HY8.out]
                  all_goals simp [bvs, List.map_set]
                  all_goals rfl
                · obtain rfl : t = 4 := by omega
                  rw [hj4.out] at hrow
                  have R1 := Lib.hid hrow
                  have RB := Lib.hid (HBI.out.trans hBj)
                  clear hrow hBj
                  generalize x / 256 ^ 4 = y at *
                  rw [show (3 : Int) - ((4 : Nat) : Int) = -1 from rfl]
                  go_wp2_with fail
                  exact ⟨⟨i + 1, by go_num, by omega, R1.out, RB.out⟩, by simp [intOf]; omega⟩
            · obtain rfl : i = 8 := by omega
              have e8 : obTo l8 8 = ob l8 := by
                unfold obTo
                rw [List.take_of_length_le (by rw [HL8.out]; omega)]
                simp
              rw [e8] at hrow
              have hol : (bvs (ob l8)).toArray.size = 32 := by rw [List.size_toArray, bvs_length, ob_length, HL8.out]
              have sz2 := Lib.hid (show (Tryz.prog.info? 22).map (·.size) = some (bvs (ob l8)).toArray.size by rw [hol]; kernel_rfl)
              have so2 := Lib.hid (show Z32.toArray.size = (bvs (ob l8)).toArray.size by rw [hol]; rfl)
              have s2 := Lib.hid (show (bvs (ob l8)).toArray.all (·.oneCell') = true from all_oneCell_toArray (by
                intro v hv
                obtain ⟨_, _, rfl⟩ := List.mem_map.1 hv
                rfl))
              have R1 := Lib.hid hrow
              have R3 := Lib.hid ((hBi.block _ (by omega)).trans ZZ2.out)
              have RB := Lib.hid (HBW2.out.trans (hBi.mono (by omega)))
              clear hrow hBi e8 hol
              rw [show ((8 : Nat) : Int) = 8 from rfl]
              go_wp2_with (first
                | (refine wpList_load_row rfl 22 (.tmp 23) rfl go rfl 22 _ (0, 0) _ R1.out Tryz.underlying22 rfl sz2.out ?_)
                | (refine wpList_store_all rfl 22 (.tmp 2) (.tmp 305) rfl w.heap.size 22 Z32.toArray (bvs (ob l8)).toArray rfl rfl R3.out sz2.out so2.out s2.out ?_))
              refine bodyPost_ret (results_cell_row rfl _ _ w.heap.size 22 (bvs (ob l8)).toArray (0, 0) _ rfl (setRow_heap wi _ _ _ _ (0, 0) R3.out) Tryz.underlying22 rfl sz2.out) rfl ?_
              exact ⟨by rw [HSHA.out], below_setRow RB.out (Nat.le_refl _) _⟩
    · have hm : ¬ ((n + 1 + z : Nat) : Int) % 64 = 56 := by have := mt hr.1 hzt; omega
      obtain ⟨N, hN⟩ : ∃ N, N = n + 1 + z := ⟨_, rfl⟩
      rw [← hN] at hm hsz
      have HNN := Lib.hid hN
      have HZT := Lib.hid hzt
      have hNb : ¬ 9223372036854775807 < N + 1 := by omega
      clear hr hN hzt
      go_wp2_with fail
      exact ⟨⟨z + 1, congrArg Value.string HPS.out, by have := HZT.out; omega, rfl⟩, by rw [HPS.out, HLS.out, HLS0.out]; omega⟩
end Go.Proofs.YtnfobnnbeefeeaaGreatDoor.Sm
