/- The reference's SHA-256: the loop of the chunks. -/
import Derived.Test.YtnfobnnbeefeeaaGreatDoorGS7
namespace Go.Proofs.YtnfobnnbeefeeaaGreatDoor.Sm
open Go Go.RowKit
set_option linter.unusedVariables false

set_option maxRecDepth 100000 in
set_option maxHeartbeats 16000000 in
theorem loopC {Q : Exit → Act → World → Prop} {gk gh N M n : Nat} {iu : TypeInfo} {l P : List UInt8} {w w3 : World} {s1 s2 s4 s5 s6 s9 s10 s11 s12 s13 s14 s15 s16 s17 s18 s19 s20 s21 s22 s23 s24 s25 s26 s27 s28 s29 s30 s31 s32 s33 s34 s35 s36 s37 s38 s39 s40 s41 s42 s43 s44 s45 s46 s47 s48 s49 s50 s51 s52 s53 s54 s55 s56 s57 s58 s59 s60 s61 s62 s63 s64 s65 s66 s67 s68 s69 s70 s71 s72 s73 s74 s75 s76 s77 s78 s79 s80 s81 s82 s83 s84 s85 s86 s87 s88 s89 s90 s91 s92 s93 s94 s95 s96 s97 s98 s99 s100 s101 s102 s103 s104 s105 s106 s107 s108 s109 s110 s111 s112 s113 s114 s115 s116 s117 s118 s119 s120 s121 s122 s123 s124 s125 s126 s127 s128 s129 s130 s131 s132 s133 s134 s135 s136 s137 s138 s139 s140 s141 s142 s143 s144 s145 s146 s147 s148 s149 s150 s151 s152 s153 s154 s155 s156 s157 s158 s159 s160 s161 s162 s163 s164 s165 s166 s167 s168 s169 s170 s171 s172 s173 s174 s175 s176 s177 s178 s179 s180 s181 s182 s183 s184 s185 s186 s187 s188 s189 s190 s191 s192 s193 s194 s195 s196 s197 s198 s199 s200 s201 s202 s203 s204 s205 s206 s207 s208 s209 s210 s211 s212 s213 s214 s215 s216 s217 s218 s219 s220 s221 s222 s223 s224 s225 s226 s227 s228 s229 s230 s231 s232 s233 s234 s235 s236 s237 s238 s239 s240 s241 s242 s243 s244 s245 s246 s247 s248 s249 s250 s251 s252 s253 s254 s255 s256 s257 s258 s259 s260 s261 s262 s263 s264 s265 s266 s267 s268 s269 s270 s271 s272 s273 s274 s275 s276 s277 s278 s279 s280 s281 s282 s283 s284 s285 s286 s287 s288 s289 s290 s291 s292 s293 s294 s295 s296 s297 s298 s299 s300 s301 s302 s303 s304 s305 : Value} (hiu : Tryz.prog.info? 81 = some iu) (hu0 : iu.zero = some (.int .u32 0)) (hu1 : iu.size = 1) (hu2 : iu.bytes = 4)
    (HP : Hid (P = padded l)) (HPL : Hid ((padded l).length = 64 * ((padded l).length / 64))) (HPN : Hid ((padded l).length = N + 8)) (HM : Hid (N + 8 = 64 * M)) (hNM : (N : Int) + 8 = 64 * (M : Int)) (hNb : N ≤ 2000000) (hszP : (str P).size = N + 8)
    (g2 : gk + 1 ≤ gh) (k3 : Hid (w3.heap[gk]? = some (.cells (u32s K0).toArray 81 (0, 0)))) (H3 : Hid (w3.heap[gh]? = some (.cells (u32s S0).toArray 81 (0, 0)))) (N3 : Hid (w3.heap.size = gh + 1))
    (hQ : ∀ (wr : World) (x9 x10 x11 x12 x13 x14 x15 x16 x17 x18 x19 x20 x21 x22 x57 x58 x59 x60 x61 x62 x63 x64 x65 x66 x67 x68 x69 x70 x71 x72 x73 x74 x75 x76 x77 x78 x79 x80 x81 x82 x83 x84 x85 x86 x87 x88 x89 x90 x91 x92 x93 x94 x95 x96 x97 x98 x99 x100 x101 x102 x103 x104 x105 x106 x107 x108 x109 x110 x111 x112 x113 x114 x115 x116 x117 x118 x119 x120 x121 x122 x123 x124 x125 x126 x127 x128 x129 x130 x131 x132 x133 x134 x135 x136 x137 x138 x139 x140 x141 x142 x143 x144 x145 x146 x147 x148 x149 x150 x151 x152 x153 x154 x155 x156 x157 x158 x159 x160 x161 x162 x163 x164 x165 x166 x167 x168 x169 x170 x171 x172 x173 x174 x175 x176 x177 x178 x179 x180 x181 x182 x183 x184 x185 x186 x187 x188 x189 x190 x191 x192 x193 x194 x195 x196 x197 x198 x199 x200 x201 x202 x203 x204 x205 x206 x207 x208 x209 x210 x211 x212 x213 x214 x215 x216 x217 x218 x219 x220 x221 x222 x223 x224 x225 x226 x227 x228 x229 x230 x231 x232 x233 x234 x235 x236 x237 x238 x239 x240 x241 x242 x243 x244 x245 x246 x247 x248 x249 x250 x251 x252 x253 x254 x255 x256 x257 x258 x259 x260 x261 x262 x263 x264 x265 x266 x267 x268 x269 x270 x271 x272 x273 x274 x275 x276 x277 x278 x279 x280 x281 : Value), wr.heap[gh]? = some (.cells (u32s (blocksR K0 S0 P M)).toArray 81 (0, 0)) → Hs w3 wr gh → Q .normal { tmps := #[.string (str P), s1, s2, .slice (some ⟨gk, 0, none⟩) 64 64, s4, s5, s6, .slice (some ⟨gh, 0, none⟩) 8 8, .int .i64 (64 * (M : Int)), x9, x10, x11, x12, x13, x14, x15, x16, x17, x18, x19, x20, x21, x22, s23, s24, s25, s26, s27, s28, s29, s30, s31, s32, s33, s34, s35, s36, s37, s38, s39, s40, s41, s42, s43, s44, s45, s46, s47, s48, s49, s50, s51, s52, s53, s54, s55, s56, x57, x58, x59, x60, x61, x62, x63, x64, x65, x66, x67, x68, x69, x70, x71, x72, x73, x74, x75, x76, x77, x78, x79, x80, x81, x82, x83, x84, x85, x86, x87, x88, x89, x90, x91, x92, x93, x94, x95, x96, x97, x98, x99, x100, x101, x102, x103, x104, x105, x106, x107, x108, x109, x110, x111, x112, x113, x114, x115, x116, x117, x118, x119, x120, x121, x122, x123, x124, x125, x126, x127, x128, x129, x130, x131, x132, x133, x134, x135, x136, x137, x138, x139, x140, x141, x142, x143, x144, x145, x146, x147, x148, x149, x150, x151, x152, x153, x154, x155, x156, x157, x158, x159, x160, x161, x162, x163, x164, x165, x166, x167, x168, x169, x170, x171, x172, x173, x174, x175, x176, x177, x178, x179, x180, x181, x182, x183, x184, x185, x186, x187, x188, x189, x190, x191, x192, x193, x194, x195, x196, x197, x198, x199, x200, x201, x202, x203, x204, x205, x206, x207, x208, x209, x210, x211, x212, x213, x214, x215, x216, x217, x218, x219, x220, x221, x222, x223, x224, x225, x226, x227, x228, x229, x230, x231, x232, x233, x234, x235, x236, x237, x238, x239, x240, x241, x242, x243, x244, x245, x246, x247, x248, x249, x250, x251, x252, x253, x254, x255, x256, x257, x258, x259, x260, x261, x262, x263, x264, x265, x266, x267, x268, x269, x270, x271, x272, x273, x274, x275, x276, x277, x278, x279, x280, x281, s282, s283, s284, s285, s286, s287, s288, s289, s290, s291, s292, s293, s294, s295, s296, s297, s298, s299, s300, s301, s302, s303, s304, s305], defers := [] } wr) :
    (loopOf 15 Tryz.f16.body).wp Tryz.prog (Exit.inBlock 4 Q) { tmps := #[.string (str P), s1, s2, .slice (some ⟨gk, 0, none⟩) 64 64, s4, s5, s6, .slice (some ⟨gh, 0, none⟩) 8 8, .int .i64 0, s9, s10, s11, s12, s13, s14, s15, s16, s17, s18, s19, s20, s21, s22, s23, s24, s25, s26, s27, s28, s29, s30, s31, s32, s33, s34, s35, s36, s37, s38, s39, s40, s41, s42, s43, s44, s45, s46, s47, s48, s49, s50, s51, s52, s53, s54, s55, s56, s57, s58, s59, s60, s61, s62, s63, s64, s65, s66, s67, s68, s69, s70, s71, s72, s73, s74, s75, s76, s77, s78, s79, s80, s81, s82, s83, s84, s85, s86, s87, s88, s89, s90, s91, s92, s93, s94, s95, s96, s97, s98, s99, s100, s101, s102, s103, s104, s105, s106, s107, s108, s109, s110, s111, s112, s113, s114, s115, s116, s117, s118, s119, s120, s121, s122, s123, s124, s125, s126, s127, s128, s129, s130, s131, s132, s133, s134, s135, s136, s137, s138, s139, s140, s141, s142, s143, s144, s145, s146, s147, s148, s149, s150, s151, s152, s153, s154, s155, s156, s157, s158, s159, s160, s161, s162, s163, s164, s165, s166, s167, s168, s169, s170, s171, s172, s173, s174, s175, s176, s177, s178, s179, s180, s181, s182, s183, s184, s185, s186, s187, s188, s189, s190, s191, s192, s193, s194, s195, s196, s197, s198, s199, s200, s201, s202, s203, s204, s205, s206, s207, s208, s209, s210, s211, s212, s213, s214, s215, s216, s217, s218, s219, s220, s221, s222, s223, s224, s225, s226, s227, s228, s229, s230, s231, s232, s233, s234, s235, s236, s237, s238, s239, s240, s241, s242, s243, s244, s245, s246, s247, s248, s249, s250, s251, s252, s253, s254, s255, s256, s257, s258, s259, s260, s261, s262, s263, s264, s265, s266, s267, s268, s269, s270, s271, s272, s273, s274, s275, s276, s277, s278, s279, s280, s281, s282, s283, s284, s285, s286, s287, s288, s289, s290, s291, s292, s293, s294, s295, s296, s297, s298, s299, s300, s301, s302, s303, s304, s305], defers := [] } w3 := by
  dsimp only at hQ ⊢
  have HQ := Lib.hid hQ
  clear hQ
  conv => arg 2; whnf
  go_loopw [8] (fun u wr' => OcRel w3 gh P M u wr') (fun u _ => 64 * M + 64 - (intOf u).toNat)
  case atStart => exact ⟨0, rfl, Nat.zero_le _, H3.out, Hs.refl _ _⟩
  case round =>
    obtain ⟨wo, rfl⟩ : ∃ wo : World, wo = wr := ⟨_, rfl⟩
    obtain ⟨m, rfl, hm, hgh, hR⟩ := hrel
    by_cases hmM : m < M
    · have hmI : 64 * (m : Int) < (N : Int) + 8 := by omega
      have hPl : P.length = 64 * M := by rw [HP.out, HPN.out, HM.out]
      obtain ⟨c, hc⟩ : ∃ c, c = chunk P m := ⟨_, rfl⟩
      have hcl : c.length = 64 := by rw [hc]; simp [chunk]; omega
      have hcg : ∀ q, q < 64 → P.getD (64 * m + q) 0 = c.getD q 0 := by
        intro q hq
        rw [hc]
        simp [chunk, List.getD, hq]
      have hnxt : blocksR K0 S0 P (m + 1) = mixR K0 (blocksR K0 S0 P m) c := by rw [hc]; rfl
      have hHl := blocksR_length K0 S0 P rfl m
      have hHt := blocksR_lt K0 S0 P S0_lt m
      generalize blocksR K0 S0 P m = H at *
      have hgo : gh < wo.heap.size := (Array.getElem?_eq_some_iff.1 hgh).1
      have HGH := Lib.hid hgh
      have HR := Lib.hid hR
      have HPL2 := Lib.hid hPl
      have HC := Lib.hid hc
      have HCL := Lib.hid hcl
      have HCG := Lib.hid hcg
      have HNX := Lib.hid hnxt
      have HHL := Lib.hid hHl
      have HHT := Lib.hid hHt
      have hMb : M ≤ 40000 := by omega
      clear hgh hR hPl hc hcl hcg hnxt hHl hHt
      go_wp2_with fail
      go_loopw [9, 10] (fun v u wr' => OdRel wo c v u wr') (fun _ u _ => 16 - (intOf u).toNat)
      case atStart => exact ⟨0, rfl, Nat.zero_le _, World.ownsRow_nil _ _ _ _, Below.refl _ _⟩
      case round =>
        obtain ⟨wd, rfl⟩ : ∃ wd : World, wd = wr := ⟨_, rfl⟩
        obtain ⟨i, rfl, hi, hown, hBd⟩ := hrel
        by_cases hi16 : i < 16
        · have HO := Lib.hid hown
          have HBd := Lib.hid hBd
          clear hown hBd
          go_wp2_with fail
          go_loopw [11, 12] (fun x u wr' => OeRel c i wd x u wr') (fun _ u _ => 4 - (intOf u).toNat)
          case atStart => exact ⟨0, rfl, Nat.zero_le _, rfl, rfl⟩
          case round =>
            obtain ⟨j, rfl, hj, rfl, hwr⟩ := hrel
            obtain rfl := hwr.symm
            by_cases hj4 : j < 4
            · have hb := HCG.out (4 * i + j) (by omega)
              have hps : px c i (j + 1) = px c i j * 256 + (c.getD (4 * i + j) 0).toNat := rfl
              rw [← hb] at hps
              have hplt := px_lt c i j
              have hpl2 : px c i j < 16777216 := Nat.lt_of_lt_of_le hplt (Nat.pow_le_pow_right (n := 256) (j := 3) (by decide) (by omega))
              obtain ⟨q, hq⟩ : ∃ q, q = 64 * m + (4 * i + j) := ⟨_, rfl⟩
              rw [← hq] at hps
              have hqI : 64 * (m : Int) + 4 * (i : Int) + (j : Int) = (q : Int) := by omega
              have hqN : q < N + 8 := by omega
              have hix : ∀ W, (Instr.index 9 (.string (str P)) (.int .i64 (64 * (m : Int) + 4 * (i : Int) + (j : Int)))).run Tryz.prog W = .ok (.int .u8 (((P.getD q 0).toNat : Nat) : Int)) W := fun W => by
                rw [hqI]
                exact index_str P q (by rw [HPL2.out, ← HM.out]; exact hqN) W
              have HPS := Lib.hid hps
              generalize px c i j = x0 at *
              generalize P.getD q 0 = b0 at *
              have hb8 := b0.toNat_lt
              have hxI : (x0 : Int) < 16777216 := by omega
              have hbI : ((b0.toNat : Nat) : Int) < 256 := by omega
              have hmB : (m : Int) < 40000 := by omega
              have hiB : (i : Int) < 16 := by omega
              have hjB : (j : Int) < 4 := by omega
              clear hps hplt hq hb hqI hqN hpl2
              go_wp2_with fail
              exact ⟨⟨j + 1, by go_num, by omega, val_u32n (by rw [HPS.out]; simp), rfl⟩, by simp [intOf]; omega⟩
            · obtain rfl : j = 4 := by omega
              rw [px_4, show ((4 : Nat) : Int) = 4 from rfl]
              have hbl : (base16 c).length = 16 := base16_length c
              have htk : (base16 c).take (i + 1) = (base16 c).take i ++ [w16 c i] := by
                rw [List.take_succ_eq_append_getElem (by omega)]
                simp [base16]
              have hnext : ∀ v' w', Grew (wd.alloc (.cells #[.int .u32 ((w16 c i : Nat) : Int)] 81)) w' wo.heap.size 81 1 u9 v' (i + 1) (u32s ((base16 c).take i) ++ [.int .u32 ((w16 c i : Nat) : Int)]) → w'.ownsRow wo.heap.size 81 1 v' (i + 1) (u32s ((base16 c).take (i + 1))) ∧ Below wo.heap.size wo w' := by
                rintro v' w' ⟨h1, h2, h3⟩
                constructor
                · rw [htk]; simpa [u32s] using h1
                · exact (HBd.out.alloc HBd.out.size _).grown h2 (by have := HBd.out.size; simp; omega) (fun g e => (HO.out.lt g e).1)
              have HNX2 := Lib.hid hnext
              have zd := HBd.out.size
              obtain ⟨x, hx⟩ : ∃ x, x = w16 c i := ⟨_, rfl⟩
              rw [← hx] at HNX2 ⊢
              clear hnext htk hbl hx
              go_wp2_with (at_builtin; refine wpList_append_own_src _ rfl (.tmp 83) (.tmp 85) 78 78 rfl wo.heap.size 81 iu (.int .u32 0) 1 4 Tryz.underlying78 hiu hu0 hu1 hu2 rfl _ i (u32s ((base16 c).take i)) rfl (HO.out.alloc _) _ 1 [.int .u32 (x : Int)] rfl (src_one Tryz.underlying78 wd (.int .u32 (x : Int)) rfl) ?b1 ?b2 (by simp; omega) ?next)
              case b1 => unfold maxLen; omega
              case b2 => omega
              case next =>
                intro v' w' hG
                obtain ⟨n1, n2⟩ := HNX2.out v' w' hG
                have N1 := Lib.hid n1
                have NB := Lib.hid n2
                clear HNX2 hG n1 n2 HO HBd
                go_wp2_with fail
                go_roundw
                case rel => exact ⟨i + 1, by go_num, by omega, N1.out, NB.out⟩
                case measure => simp [intOf]; omega
        · obtain rfl : i = 16 := by omega
          have hb16 : (base16 c).take 16 = exs c 0 := by
            show _ = base16 c
            exact List.take_of_length_le (by rw [base16_length]; omega)
          rw [hb16] at hown
          rw [show ((16 : Nat) : Int) = 16 from rfl]
          have HO := Lib.hid hown
          have HBd := Lib.hid hBd
          clear hown hBd hb16 hi16
          go_wp2_with fail
          go_loopw [9, 13] (fun v u wr' => OfRel wo c v u wr') (fun _ u _ => 64 - (intOf u).toNat)
          case atStart => exact ⟨0, rfl, Nat.zero_le _, HO.out, HBd.out⟩
          case round =>
            clear HO HBd
            obtain ⟨wf, rfl⟩ : ∃ wf : World, wf = wr := ⟨_, rfl⟩
            obtain ⟨i, rfl, hi, hown, hBf⟩ := hrel
            obtain ⟨a9, c9, rfl⟩ := own_sl hown
            have hxl := exs_length c i
            obtain ⟨g9, rfl, hg9, hg9l, hg9o, cells⟩ := u32row_at hown hxl (by omega)
            obtain ⟨k, hk⟩ : ∃ k, k = 16 + i := ⟨_, rfl⟩
            by_cases hi48 : i < 48
            · have hex : exs c (i + 1) = ex (exs c i) := rfl
              unfold ex at hex
              have hLt := exs_all c i
              rw [hxl, ← hk] at hex
              rw [← hk] at hown hxl cells ⊢
              have hgl : ∀ q, (exs c i).getD q 0 < 4294967296 := getD_lt hLt
              generalize exs c i = L at *
              have p15 := hgl (k - 15)
              have p2 := hgl (k - 2)
              have p16 := hgl (k - 16)
              have p7 := hgl (k - 7)
              have c15 := cells (k - 15) (by omega)
              have c2 := cells (k - 2) (by omega)
              have c16 := cells (k - 16) (by omega)
              have c7 := cells (k - 7) (by omega)
              generalize L.getD (k - 15) 0 = y15 at *
              generalize L.getD (k - 2) 0 = y2 at *
              generalize L.getD (k - 16) 0 = y16 at *
              generalize L.getD (k - 7) 0 = y7 at *
              obtain ⟨q15, hq15⟩ : ∃ q, q = k - 15 := ⟨_, rfl⟩
              obtain ⟨q2, hq2⟩ : ∃ q, q = k - 2 := ⟨_, rfl⟩
              obtain ⟨q16, hq16⟩ : ∃ q, q = k - 16 := ⟨_, rfl⟩
              obtain ⟨q7, hq7⟩ : ∃ q, q = k - 7 := ⟨_, rfl⟩
              rw [← hq15] at c15
              rw [← hq2] at c2
              rw [← hq16] at c16
              rw [← hq7] at c7
              have i15 : (k : Int) - 15 = (q15 : Int) := by omega
              have i2 : (k : Int) - 2 = (q2 : Int) := by omega
              have i16 : (k : Int) - 16 = (q16 : Int) := by omega
              have i7 : (k : Int) - 7 = (q7 : Int) := by omega
              have v15 : IntKind.i64.wrap ((k : Int) - 15) = (q15 : Int) := by rw [i15]; exact IntWalk.i64_in _ (by omega)
              have v2 : IntKind.i64.wrap ((k : Int) - 2) = (q2 : Int) := by rw [i2]; exact IntWalk.i64_in _ (by omega)
              have v16 : IntKind.i64.wrap ((k : Int) - 16) = (q16 : Int) := by rw [i16]; exact IntWalk.i64_in _ (by omega)
              have v7 : IntKind.i64.wrap ((k : Int) - 7) = (q7 : Int) := by rw [i7]; exact IntWalk.i64_in _ (by omega)
              have b15 : (q15 : Int) < (k : Int) := by omega
              have b2 : (q2 : Int) < (k : Int) := by omega
              have b16 : (q16 : Int) < (k : Int) := by omega
              have b7 : (q7 : Int) < (k : Int) := by omega
              have kI : (k : Int) < 64 := by omega
              have HO := Lib.hid hown
              have HEX := Lib.hid hex
              have HK := Lib.hid hk
              have HXL := Lib.hid hxl
              have HBf := Lib.hid hBf
              clear hown hex hk hxl hLt hgl cells hq15 hq2 hq16 hq7 hBf
              go_wp2_with fail
              go_quiet (first | (go_at_call 58; with_reducible exact rq7 wf _ p15) | (go_at_call 58; with_reducible exact rq18 wf _ p15) | (go_at_call 59; with_reducible exact lq3 wf _ p15))
              rw [sig0_walk2 p15]
              obtain ⟨wg, hwg⟩ : ∃ wg, wg = wf.drewN nq := ⟨_, rfl⟩
              rw [← hwg]
              have c2g : wg.cell? ⟨g9, q2, none⟩ = some (.int .u32 ((y2 : Nat) : Int)) := by rw [hwg]; exact c2
              have HOg := Lib.hid (show wg.ownsRow wo.heap.size 81 1 (.slice (some ⟨g9, 0, none⟩) k c9) k (u32s L) by rw [hwg]; exact HO.out)
              have c16g := Lib.hid (show wg.cell? ⟨g9, q16, none⟩ = some (.int .u32 ((y16 : Nat) : Int)) by rw [hwg]; exact c16)
              have c7g := Lib.hid (show wg.cell? ⟨g9, q7, none⟩ = some (.int .u32 ((y7 : Nat) : Int)) by rw [hwg]; exact c7)
              have HBg := Lib.hid (show Below wo.heap.size wo wg by rw [hwg]; exact below_drewN HBf.out nq)
              have hgg : g9 < wg.heap.size := by rw [hwg]; exact hg9l
              clear c2 c15 c16 c7 HO HBf hwg hg9l
              obtain ⟨s0, hs0⟩ : ∃ s0, s0 = sig0 y15 := ⟨_, rfl⟩
              rw [← hs0]
              have hs0l : s0 < 4294967296 := by rw [hs0]; exact sig0_lt p15
              have HS0 := Lib.hid hs0
              clear hs0
              go_wp2_with fail
              go_quiet (first | (go_at_call 58; with_reducible exact rq17 wg _ p2) | (go_at_call 58; with_reducible exact rq19 wg _ p2) | (go_at_call 59; with_reducible exact lq10 wg _ p2))
              rw [sig1_walk2 p2]
              obtain ⟨wh, hwh⟩ : ∃ wh, wh = wg.drewN nq := ⟨_, rfl⟩
              rw [← hwh]
              have HOh := Lib.hid (show wh.ownsRow wo.heap.size 81 1 (.slice (some ⟨g9, 0, none⟩) k c9) k (u32s L) by rw [hwh]; exact HOg.out)
              have c16h : wh.cell? ⟨g9, q16, none⟩ = some (.int .u32 ((y16 : Nat) : Int)) := by rw [hwh]; exact c16g.out
              have c7h : wh.cell? ⟨g9, q7, none⟩ = some (.int .u32 ((y7 : Nat) : Int)) := by rw [hwh]; exact c7g.out
              have HBh := Lib.hid (show Below wo.heap.size wo wh by rw [hwh]; exact below_drewN HBg.out nq)
              clear c2g c16g c7g HOg HBg hwh hgg
              obtain ⟨s1, hs1⟩ : ∃ s1, s1 = sig1 y2 := ⟨_, rfl⟩
              rw [← hs1]
              have hs1l : s1 < 4294967296 := by rw [hs1]; exact sig1_lt p2
              have HS1 := Lib.hid hs1
              clear hs1
              go_wp2_with fail
              (refine wp_region_quiet_tail_f 16 (by kernel_rfl) (by kernel_rfl) ?_; simp only [List.take_succ_cons, List.take_zero, List.drop_succ_cons, List.drop_zero]; (repeat (go_big_quiet_step (fail))); refine wpQuiet_nil ?_; intro _ hw'; obtain ⟨nq, hw''⟩ := hw'; subst hw'')
              obtain ⟨wk, hwk⟩ : ∃ wk, wk = wh.drewN nq := ⟨_, rfl⟩
              rw [← hwk]
              have HOk := Lib.hid (show wk.ownsRow wo.heap.size 81 1 (.slice (some ⟨g9, 0, none⟩) k c9) k (u32s L) by rw [hwk]; exact HOh.out)
              have HBk := Lib.hid (show Below wo.heap.size wo wk by rw [hwk]; exact below_drewN HBh.out nq)
              clear c16h c7h HOh HBh hwk p15 p2 p16 p7 hs0l hs1l
              obtain ⟨y, hy⟩ : ∃ y, y = (y16 + s0 + y7 + s1) % 4294967296 := ⟨_, rfl⟩
              have hyI : ((y16 : Int) + (s0 : Int) + (y7 : Int) + (s1 : Int)) % 4294967296 = ((y : Nat) : Int) := by omega
              have hnext : ∀ v' w', Grew (wk.alloc (.cells #[.int .u32 ((y : Nat) : Int)] 81)) w' wo.heap.size 81 1 (.slice (some ⟨g9, 0, none⟩) k c9) v' (k + 1) (u32s L ++ [.int .u32 ((y : Nat) : Int)]) → w'.ownsRow wo.heap.size 81 1 v' (16 + (i + 1)) (u32s (exs c (i + 1))) ∧ Below wo.heap.size wo w' := by
                rintro v' w' ⟨h1, h2, h3⟩
                constructor
                · rw [HEX.out, ← Nat.add_assoc, ← HK.out]
                  have e1 : (y16 + s0 + y7 + s1) = y16 + sig0 y15 + y7 + sig1 y2 := by rw [HS0.out, HS1.out]
                  rw [hy, e1] at h1
                  simpa [u32s, Nat.add_comm, Nat.add_left_comm] using h1
                · exact (HBk.out.alloc HBk.out.size _).grown h2 (by have := HBk.out.size; simp; omega) (fun g e => (HOk.out.lt g e).1)
              have HNX2 := Lib.hid hnext
              have HYI := Lib.hid hyI
              have zk := HBk.out.size
              have hk64 : k < 64 := by omega
              clear hnext hy hyI
              go_wp2_with (at_builtin; rw [HYI.out]; refine wpList_append_own_src _ rfl (.tmp 131) (.tmp 147) 78 78 rfl wo.heap.size 81 iu (.int .u32 0) 1 4 Tryz.underlying78 hiu hu0 hu1 hu2 rfl _ k (u32s L) rfl (HOk.out.alloc _) _ 1 [.int .u32 (y : Int)] rfl (src_one Tryz.underlying78 wk (.int .u32 (y : Int)) rfl) ?b1 ?b2 (by simp; omega) ?next)
              case b1 => unfold maxLen; omega
              case b2 => omega
              case next =>
                intro v' w' hG
                obtain ⟨n1, n2⟩ := HNX2.out v' w' hG
                have N1 := Lib.hid n1
                have NB := Lib.hid n2
                have HK2 := HK.out
                clear HNX2 hG n1 n2 HOk HBk
                go_wp2_with fail
                exact ⟨⟨i + 1, val_i64 (by omega), by omega, N1.out, NB.out⟩, by simp [intOf]; omega⟩
            · have e64 : 16 + i = 64 := by omega
              have e48 : i = 48 := by omega
              subst e48
              rw [e64] at hown cells hxl ⊢
              have hLt := exs_all c 48
              obtain ⟨X, hX⟩ : ∃ X, X = exs c 48 := ⟨_, rfl⟩
              rw [← hX] at hown cells hxl hLt
              have hXl : ∀ q, X.getD q 0 < 4294967296 := getD_lt hLt
              have hgF := Lib.hid ((hBf.block _ hgo).trans HGH.out)
              have HXX := Lib.hid hX
              have HCX := Lib.hid cells
              have HXL := Lib.hid hXl
              have HXN := Lib.hid hxl
              have HBf := Lib.hid hBf
              rw [show ((64 : Nat) : Int) = 64 from rfl]
              clear hown cells hxl hLt hX hXl hBf e64 hi hk hi48
              have HOE := Lib.hid (World.ownsRow_lit (e := 81) (size := 1) wf #[] 0 (Nat.le_refl _) (Nat.zero_le _) rfl)
              have HSR := Lib.hid (src_row Tryz.underlying78 (wf.alloc (.cells #[] 81)) gh H 8 HHL.out (by decide) (by rw [Below.heap_alloc _ _ _ (by have := HBf.out.size; omega)]; exact hgF.out))
              have hnext : ∀ v' w', Grew (wf.alloc (.cells #[] 81)) w' wf.heap.size 81 1 (.slice (some ⟨wf.heap.size, 0, none⟩) 0 0) v' 8 (u32s H) → OgRel wf X H v' (.int .i64 0) w' := by
                rintro v' w' ⟨h1, h2, h3⟩
                obtain ⟨ao, cp, rfl⟩ := own_sl h1
                obtain ⟨g, rfl, hg, hgl, hgo', hcells⟩ := u32row_at h1 HHL.out (by decide)
                exact ⟨0, g, cp, rfl, Nat.zero_le _, rfl, hg, hgl, ⟨hcells 0 (by decide), hcells 1 (by decide), hcells 2 (by decide), hcells 3 (by decide), hcells 4 (by decide), hcells 5 (by decide), hcells 6 (by decide), hcells 7 (by decide)⟩,
                  ((Below.refl _ _).alloc (Nat.le_refl _) _).grown h2 (by simp) (fun g e => (HOE.out.lt g e).1)⟩
              have HNX2 := Lib.hid hnext
              clear hnext
              go_wp2_with (at_builtin; refine wpList_append_own_src _ rfl (.tmp 149) (.tmp 150) 78 78 rfl wf.heap.size 81 iu (.int .u32 0) 1 4 Tryz.underlying78 hiu hu0 hu1 hu2 rfl _ 0 [] rfl HOE.out _ 8 (u32s H) rfl HSR.out ?b1 (by omega) (by simp) ?next)
              case b1 => unfold maxLen; omega
              case next =>
                intro v' w' hG
                have HR0 := Lib.hid (HNX2.out v' w' hG)
                clear HNX2 hG HOE HSR
                go_wp2_with fail
                have KC := Lib.hid (show ∀ wr0 : World, Below wf.heap.size wf wr0 → ∀ i, i < 64 → wr0.cell? ⟨gk, i, none⟩ = some (.int .u32 ((K0.getD i 0 : Nat) : Int)) from fun wr0 hB i hi => by
                  have z1 := HR.out.size
                  have z2 := HBf.out.size
                  have z3 := N3.out
                  have z4 : gk < w3.heap.size := by omega
                  have e3 : wr0.heap[gk]? = some (.cells (u32s K0).toArray 81 (0, 0)) := by
                    rw [hB.block _ (by omega), HBf.out.block _ (by omega), HR.out.block _ z4 (by omega)]
                    exact k3.out
                  rw [cell_of_row wr0 _ i _ _ _ e3]
                  simpa using u32s_get K0 i (by rw [show K0.length = 64 from rfl]; exact hi))
                refine loopG hg9l HHT HCX HXL KC HR0 ?_
                intro v2 wr0 x18 x19 x20 x21 x152 x153 x154 x155 x156 x157 x158 x159 x160 x161 x162 x163 x164 x165 x166 x167 x168 x169 x170 x171 x172 x173 x174 x175 x176 x177 x178 x179 x180 x181 x182 x183 x184 x185 x186 x187 x188 x189 x190 x191 x192 x193 x194 x195 x196 x197 x198 x199 x200 x201 x202 x203 x204 x205 x206 x207 x208 x209 x210 x211 x212 x213 x214 x215 x216 x217 x218 x219 x220 x221 x222 x223 x224 x225 x226 x227 x228 x229 x230 x231 x232 x233 x234 x235 x236 x237 x238 x239 x240 x241 x242 x243 x244 x245 x246 x247 x248 x249 x250 x251 x252 x253 x254 x255 x256 x257 x258 x259 x260 x261 x262 x263 x264 x265 x266 x267 hOg
                obtain ⟨i, g, cp, hi64, hi, rfl, hg, hgl, hR8, hBr⟩ := hOg
                obtain rfl : i = 64 := by
                  have h1 : ((64 : Int) = (i : Int)) := by simpa using hi64
                  omega
                clear hi64 HR0
                obtain ⟨SR, hSR⟩ : ∃ SR, SR = rnds X K0 (S8.of H) 64 := ⟨_, rfl⟩
                rw [← hSR] at hR8
                have hnx := HNX.out.trans (mixR_eq c H HXX.out hSR)
                have hcN := R8.get hR8
                have hN8l := S8.list_length SR
                clear hR8 hSR
                generalize SR.list = N8 at *
                have HNX8 := Lib.hid hnx
                have HCN := Lib.hid hcN
                have HN8L := Lib.hid hN8l
                have hghf : wr0.heap[gh]? = some (.cells (u32s H).toArray 81 (0, 0)) := by
                  have := HBf.out.size
                  exact (hBr.block _ (by omega)).trans hgF.out
                have hHs : Hs w3 wr0 gh := (HR.out.trans (Hs.of_below HBf.out)).trans (Hs.of_below hBr)
                have hgne : g ≠ gh := by have := HBf.out.size; omega
                have HGF0 := Lib.hid hghf
                have HHS := Lib.hid hHs
                clear hcN hN8l hnx hghf hHs hBr hi KC HXX HCX HXL HXN HBf hgF
                go_wp2_with fail
                go_loopw [22] (fun u wr' => OhRel wr0 gh H N8 u wr') (fun u _ => 8 - (intOf u).toNat)
                case atStart => exact ⟨0, rfl, Nat.zero_le _, by have := HGF0.out; simpa [zipTo] using this, Hs.refl _ _⟩
                case round =>
                  obtain ⟨wv, rfl⟩ : ∃ wv : World, wv = wr := ⟨_, rfl⟩
                  obtain ⟨q, rfl, hq, hrow, hRv⟩ := hrel
                  by_cases hq8 : q < 8
                  · have a0 : wv.cell? ⟨gh, q, none⟩ = some (.int .u32 ((H.getD q 0 : Nat) : Int)) := by
                      rw [cell_of_row wv _ q _ _ _ hrow, ← zipTo_get H N8 HHL.out hq8]
                      simpa using u32s_get (zipTo H N8 q) q (by rw [zipTo_length H N8 HHL.out hq]; exact hq8)
                    have b0 : wv.cell? ⟨g, q, none⟩ = some (.int .u32 ((N8.getD q 0 : Nat) : Int)) := (World.cell?_of_block (w := wr0) (a := ⟨g, q, none⟩) (hRv.block g hgl hgne)).trans (HCN.out q hq8)
                    have gf := frozen_of_row wv gh q _ _ hrow
                    have hn := zipTo_set H N8 HHL.out hq8
                    have HN9 := Lib.hid hn
                    have R1 := Lib.hid hrow
                    have HRV := Lib.hid hRv
                    clear hn hrow hRv
                    generalize H.getD q 0 = x at *
                    generalize N8.getD q 0 = y at *
                    have qq8 : (q : Int) < 8 := by omega
                    go_wp2_with fail
                    (refine wp_region_quiet_tail 10 (by kernel_rfl) (by kernel_rfl) ?_; simp only [List.take_succ_cons, List.take_zero, List.drop_succ_cons, List.drop_zero]; (repeat (go_big_quiet_step (fail))); refine wpQuiet_nil ?_; intro _ hw'; obtain ⟨nq, hw''⟩ := hw'; subst hw'')
                    go_wp2
                    refine ⟨⟨q + 1, by go_num, by omega, ?_, ?_⟩, by simp [intOf]; omega⟩
                    · rw [heap_setCell_same (wv.drewN nq) _ q _ _ _ R1.out, ← HN9.out]
                      have hv : ∀ x : Nat, (u32s (zipTo H N8 q)).toArray.setIfInBounds q (.int .u32 (x : Int)) = (u32s ((zipTo H N8 q).set q x)).toArray := by
                        intro x
                        rw [← u32s_set]; simp
                      rw [← hv]
                      congr 2
                    · exact (HRV.out.drewN nq).setCell _ _
                  · obtain rfl : q = 8 := by omega
                    have e8 : zipTo H N8 8 = zip8 H N8 := by simp [zipTo, HHL.out, zip8_length, List.take_of_length_le]
                    rw [e8, ← HNX8.out] at hrow
                    have R1 := Lib.hid hrow
                    have HRV := Lib.hid (HHS.out.trans hRv)
                    rw [show ((8 : Nat) : Int) = 8 from rfl]
                    clear hrow hRv e8 HCN HHS HGF0 HNX HNX8
                    go_wp2_with fail
                    exact ⟨⟨m + 1, val_i64 (by omega), by omega, R1.out, HRV.out⟩, by simp [intOf]; omega⟩
    · obtain rfl : m = M := by omega
      have hmI : ¬ 64 * (m : Int) < (N : Int) + 8 := by omega
      have HGH := Lib.hid hgh
      have HRR := Lib.hid hR
      clear hgh hR
      go_wp2_with fail
      exact HQ.out _ _ _ _ _ _ _ _ _ _ _ _ _ _ _ _ _ _ _ _ _ _ _ _ _ _ _ _ _ _ _ _ _ _ _ _ _ _ _ _ _ _ _ _ _ _ _ _ _ _ _ _ _ _ _ _ _ _ _ _ _ _ _ _ _ _ _ _ _ _ _ _ _ _ _ _ _ _ _ _ _ _ _ _ _ _ _ _ _ _ _ _ _ _ _ _ _ _ _ _ _ _ _ _ _ _ _ _ _ _ _ _ _ _ _ _ _ _ _ _ _ _ _ _ _ _ _ _ _ _ _ _ _ _ _ _ _ _ _ _ _ _ _ _ _ _ _ _ _ _ _ _ _ _ _ _ _ _ _ _ _ _ _ _ _ _ _ _ _ _ _ _ _ _ _ _ _ _ _ _ _ _ _ _ _ _ _ _ _ _ _ _ _ _ _ _ _ _ _ _ _ _ _ _ _ _ _ _ _ _ _ _ _ _ _ _ _ _ _ _ _ _ _ _ _ _ _ _ _ _ _ _ _ _ _ _ _ _ _ _ HGH.out HRR.out
end Go.Proofs.YtnfobnnbeefeeaaGreatDoor.Sm
