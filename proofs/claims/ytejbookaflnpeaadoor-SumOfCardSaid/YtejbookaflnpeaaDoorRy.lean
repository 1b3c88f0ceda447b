/- The reference's SHA-256: the loop of the rounds. -/
import Derived.Test.YtejbookaflnpeaaDoorRx
namespace Go.Proofs.YtejbookaflnpeaaDoor
open Go Go.RowKit
set_option linter.unusedVariables false

set_option maxRecDepth 100000 in
set_option maxHeartbeats 16000000 in
theorem loopG {Q : Exit → Act → World → Prop} {gk g9 c9 : Nat} {X H : List Nat} {wf w' : World} {v' : Value} {s0 s1 s2 s4 s5 s6 s7 s8 s10 s11 s12 s13 s14 s15 s18 s19 s20 s21 s22 s23 s24 s25 s26 s27 s28 s29 s30 s31 s32 s33 s34 s35 s36 s37 s38 s39 s40 s41 s42 s43 s44 s45 s46 s47 s48 s49 s50 s51 s52 s53 s54 s55 s56 s57 s58 s59 s60 s61 s62 s63 s64 s65 s66 s67 s68 s69 s70 s71 s72 s73 s74 s75 s76 s77 s78 s79 s80 s81 s82 s83 s84 s85 s86 s87 s88 s89 s90 s91 s92 s93 s94 s95 s96 s97 s98 s99 s100 s101 s102 s103 s104 s105 s106 s107 s108 s109 s110 s111 s112 s113 s114 s115 s116 s117 s118 s119 s120 s121 s122 s123 s124 s125 s126 s127 s128 s129 s130 s131 s132 s133 s134 s135 s136 s137 s138 s139 s140 s141 s142 s143 s144 s145 s146 s147 s148 s149 s150 s151 s152 s153 s154 s155 s156 s157 s158 s159 s160 s161 s162 s163 s164 s165 s166 s167 s168 s169 s170 s171 s172 s173 s174 s175 s176 s177 s178 s179 s180 s181 s182 s183 s184 s185 s186 s187 s188 s189 s190 s191 s192 s193 s194 s195 s196 s197 s198 s199 s200 s201 s202 s203 s204 s205 s206 s207 s208 s209 s210 s211 s212 s213 s214 s215 s216 s217 s218 s219 s220 s221 s222 s223 s224 s225 s226 s227 s228 s229 s230 s231 s232 s233 s234 s235 s236 s237 s238 s239 s240 s241 s242 s243 s244 s245 s246 s247 s248 s249 s250 s251 s252 s253 s254 s255 s256 s257 s258 s259 s260 s261 s262 s263 s264 s265 s266 s267 s268 s269 s270 s271 s272 s273 s274 s275 s276 s277 s278 s279 s280 s281 s282 s283 s284 s285 s286 s287 s288 s289 s290 s291 s292 s293 s294 s295 s296 s297 s298 s299 s300 s301 s302 s303 s304 s305 : Value} (hg9l : g9 < wf.heap.size) (HHT : Hid (∀ x ∈ H, x < 4294967296))
    (HCX : Hid (∀ k, k < 64 → wf.cell? ⟨g9, k, none⟩ = some (.int .u32 ((X.getD k 0 : Nat) : Int)))) (HXL : Hid (∀ q, X.getD q 0 < 4294967296))
    (KC : Hid (∀ wr0 : World, Below wf.heap.size wf wr0 → ∀ i, i < 64 → wr0.cell? ⟨gk, i, none⟩ = some (.int .u32 ((K0.getD i 0 : Nat) : Int)))) (HR0 : Hid (OgRel wf X H v' (.int .i64 0) w'))
    (hQ : ∀ (v2 : Value) (wr : World) (x18 x19 x20 x21 x152 x153 x154 x155 x156 x157 x158 x159 x160 x161 x162 x163 x164 x165 x166 x167 x168 x169 x170 x171 x172 x173 x174 x175 x176 x177 x178 x179 x180 x181 x182 x183 x184 x185 x186 x187 x188 x189 x190 x191 x192 x193 x194 x195 x196 x197 x198 x199 x200 x201 x202 x203 x204 x205 x206 x207 x208 x209 x210 x211 x212 x213 x214 x215 x216 x217 x218 x219 x220 x221 x222 x223 x224 x225 x226 x227 x228 x229 x230 x231 x232 x233 x234 x235 x236 x237 x238 x239 x240 x241 x242 x243 x244 x245 x246 x247 x248 x249 x250 x251 x252 x253 x254 x255 x256 x257 x258 x259 x260 x261 x262 x263 x264 x265 x266 x267 : Value), OgRel wf X H v2 (.int .i64 64) wr → Q .normal { tmps := #[s0, s1, s2, .slice (some ⟨gk, 0, none⟩) 64 64, s4, s5, s6, s7, s8, .slice (some ⟨g9, 0, none⟩) 64 c9, s10, s11, s12, s13, s14, s15, v2, .int .i64 64, x18, x19, x20, x21, s22, s23, s24, s25, s26, s27, s28, s29, s30, s31, s32, s33, s34, s35, s36, s37, s38, s39, s40, s41, s42, s43, s44, s45, s46, s47, s48, s49, s50, s51, s52, s53, s54, s55, s56, s57, s58, s59, s60, s61, s62, s63, s64, s65, s66, s67, s68, s69, s70, s71, s72, s73, s74, s75, s76, s77, s78, s79, s80, s81, s82, s83, s84, s85, s86, s87, s88, s89, s90, s91, s92, s93, s94, s95, s96, s97, s98, s99, s100, s101, s102, s103, s104, s105, s106, s107, s108, s109, s110, s111, s112, s113, s114, s115, s116, s117, s118, s119, s120, s121, s122, s123, s124, s125, s126, s127, s128, s129, s130, s131, s132, s133, s134, s135, s136, s137, s138, s139, s140, s141, s142, s143, s144, s145, s146, s147, s148, s149, s150, s151, x152, x153, x154, x155, x156, x157, x158, x159, x160, x161, x162, x163, x164, x165, x166, x167, x168, x169, x170, x171, x172, x173, x174, x175, x176, x177, x178, x179, x180, x181, x182, x183, x184, x185, x186, x187, x188, x189, x190, x191, x192, x193, x194, x195, x196, x197, x198, x199, x200, x201, x202, x203, x204, x205, x206, x207, x208, x209, x210, x211, x212, x213, x214, x215, x216, x217, x218, x219, x220, x221, x222, x223, x224, x225, x226, x227, x228, x229, x230, x231, x232, x233, x234, x235, x236, x237, x238, x239, x240, x241, x242, x243, x244, x245, x246, x247, x248, x249, x250, x251, x252, x253, x254, x255, x256, x257, x258, x259, x260, x261, x262, x263, x264, x265, x266, x267, s268, s269, s270, s271, s272, s273, s274, s275, s276, s277, s278, s279, s280, s281, s282, s283, s284, s285, s286, s287, s288, s289, s290, s291, s292, s293, s294, s295, s296, s297, s298, s299, s300, s301, s302, s303, s304, s305], defers := [] } wr) :
    (loopOf 35 Tryd.f19.body).wp Tryd.prog (Exit.inBlock 12 Q) { tmps := #[s0, s1, s2, .slice (some ⟨gk, 0, none⟩) 64 64, s4, s5, s6, s7, s8, .slice (some ⟨g9, 0, none⟩) 64 c9, s10, s11, s12, s13, s14, s15, v', .int .i64 0, s18, s19, s20, s21, s22, s23, s24, s25, s26, s27, s28, s29, s30, s31, s32, s33, s34, s35, s36, s37, s38, s39, s40, s41, s42, s43, s44, s45, s46, s47, s48, s49, s50, s51, s52, s53, s54, s55, s56, s57, s58, s59, s60, s61, s62, s63, s64, s65, s66, s67, s68, s69, s70, s71, s72, s73, s74, s75, s76, s77, s78, s79, s80, s81, s82, s83, s84, s85, s86, s87, s88, s89, s90, s91, s92, s93, s94, s95, s96, s97, s98, s99, s100, s101, s102, s103, s104, s105, s106, s107, s108, s109, s110, s111, s112, s113, s114, s115, s116, s117, s118, s119, s120, s121, s122, s123, s124, s125, s126, s127, s128, s129, s130, s131, s132, s133, s134, s135, s136, s137, s138, s139, s140, s141, s142, s143, s144, s145, s146, s147, s148, s149, s150, s151, s152, s153, s154, s155, s156, s157, s158, s159, s160, s161, s162, s163, s164, s165, s166, s167, s168, s169, s170, s171, s172, s173, s174, s175, s176, s177, s178, s179, s180, s181, s182, s183, s184, s185, s186, s187, s188, s189, s190, s191, s192, s193, s194, s195, s196, s197, s198, s199, s200, s201, s202, s203, s204, s205, s206, s207, s208, s209, s210, s211, s212, s213, s214, s215, s216, s217, s218, s219, s220, s221, s222, s223, s224, s225, s226, s227, s228, s229, s230, s231, s232, s233, s234, s235, s236, s237, s238, s239, s240, s241, s242, s243, s244, s245, s246, s247, s248, s249, s250, s251, s252, s253, s254, s255, s256, s257, s258, s259, s260, s261, s262, s263, s264, s265, s266, s267, s268, s269, s270, s271, s272, s273, s274, s275, s276, s277, s278, s279, s280, s281, s282, s283, s284, s285, s286, s287, s288, s289, s290, s291, s292, s293, s294, s295, s296, s297, s298, s299, s300, s301, s302, s303, s304, s305], defers := [] } w' := by
  dsimp only at hQ ⊢
  have HQ := Lib.hid hQ
  clear hQ
  conv => arg 2; whnf
  go_loopw [16, 17] (fun v u wr' => OgRel wf X H v u wr') (fun _ u _ => 64 - (intOf u).toNat)
  case atStart => exact HR0.out
  case round =>
    clear HR0
    obtain ⟨wr0, rfl⟩ : ∃ wr0 : World, wr0 = wr := ⟨_, rfl⟩
    obtain ⟨i, g, cp, rfl, hi, rfl, hg, hgl, hR8, hBr⟩ := hrel
    by_cases hi64 : i < 64
    · have hok := rnds_ok (X := X) (K := K0) (S8.of_ok HHT.out) i
      have hst : rnds X K0 (S8.of H) (i + 1) = rnd (X.getD i 0) (K0.getD i 0) (rnds X K0 (S8.of H) i) := rfl
      have HST := Lib.hid hst
      generalize rnds X K0 (S8.of H) i = S at *
      have xi := (hBr.cell (p := ⟨g9, i, none⟩) hg9l).trans (HCX.out i hi64)
      have ki := KC.out wr0 hBr i hi64
      have xl := HXL.out i
      have kl : K0.getD i 0 < 4294967296 := getD_lt K0_lt i
      generalize X.getD i 0 = x at *
      generalize K0.getD i 0 = k0 at *
      obtain ⟨a, b, c0, d, e, f, g0, h0⟩ := S
      obtain ⟨o1, o2, o3, o4, o5, o6, o7, o8⟩ := hok
      have R := Lib.hid hR8
      obtain ⟨r0, r1, r2, r3, r4, r5, r6, r7⟩ := hR8
      have hglwr0 := hgl
      clear hgl
      dsimp only at o1 o2 o3 o4 o5 o6 o7 o8 r0 r1 r2 r3 r4 r5 r6 r7
      clear hst
      have HBr := Lib.hid hBr
      clear hBr
      go_wp2_with fail
      go_quiet (first | (go_at_call 38; with_reducible exact rq6 wr0 _ o5) | (go_at_call 38; with_reducible exact rq11 wr0 _ o5) | (go_at_call 38; with_reducible exact rq25 wr0 _ o5))
      rw [Sig1_walk o5]
      clear r0 r1 r2 r3 r4 r5 r6 r7
      obtain ⟨wa, hwa⟩ : ∃ wa, wa = wr0.drewN nq := ⟨_, rfl⟩
      rw [← hwa]
      have RR := Lib.hid (show R8 wa g ⟨a, b, c0, d, e, f, g0, h0⟩ by rw [hwa]; exact R.out)
      have hglwa : g < wa.heap.size := by rw [hwa]; exact hglwr0
      have BB := Lib.hid (show Below wf.heap.size wf wa by rw [hwa]; exact below_drewN HBr.out nq)
      have xia : wa.cell? ⟨g9, i, none⟩ = some (.int .u32 ((x : Nat) : Int)) := by rw [hwa]; exact xi
      have kia : wa.cell? ⟨gk, i, none⟩ = some (.int .u32 ((k0 : Nat) : Int)) := by rw [hwa]; exact ki
      clear xi ki
      clear R HBr hwa hglwr0
      have R := RR
      have HBr := BB
      clear RR BB
      obtain ⟨z1, hz1⟩ : ∃ z1, z1 = Sig1 e := ⟨_, rfl⟩
      rw [← hz1]
      have HZ1 := Lib.hid hz1
      have hz1l : z1 < 4294967296 := by rw [hz1]; exact Sig1_lt o5
      clear hz1
      have ii64 : (i : Int) < 64 := by omega
      obtain ⟨r0, r1, r2, r3, r4, r5, r6, r7⟩ := R.out
      dsimp only at r0 r1 r2 r3 r4 r5 r6 r7
      go_wp2_with fail
      go_quiet (fail)
      rw [chJ o5 o6 o7]
      obtain ⟨T, hT⟩ : ∃ T, T = (h0 + z1 + ch e f g0 + x + k0) % 4294967296 := ⟨_, rfl⟩
      rw [show (((h0 : Int) + (z1 : Int) + ((ch e f g0 : Nat) : Int) + (k0 : Int)) % 4294967296 + (x : Int)) % 4294967296 = ((T : Nat) : Int) from by omega]
      have hTl : T < 4294967296 := by omega
      have HT := Lib.hid hT
      clear hT xia kia
      clear r0 r1 r2 r3 r4 r5 r6 r7
      obtain ⟨wb, hwb⟩ : ∃ wb, wb = wa.drewN nq := ⟨_, rfl⟩
      rw [← hwb]
      have RR := Lib.hid (show R8 wb g ⟨a, b, c0, d, e, f, g0, h0⟩ by rw [hwb]; exact R.out)
      have hglwb : g < wb.heap.size := by rw [hwb]; exact hglwa
      have BB := Lib.hid (show Below wf.heap.size wf wb by rw [hwb]; exact below_drewN HBr.out nq)
      clear R HBr hwb hglwa
      have R := RR
      have HBr := BB
      clear RR BB
      obtain ⟨r0, r1, r2, r3, r4, r5, r6, r7⟩ := R.out
      dsimp only at r0 r1 r2 r3 r4 r5 r6 r7
      go_wp2_with fail
      go_quiet (first | (go_at_call 38; with_reducible exact rq2 wb _ o1) | (go_at_call 38; with_reducible exact rq13 wb _ o1) | (go_at_call 38; with_reducible exact rq22 wb _ o1))
      rw [Sig0_walk o1]
      clear r0 r1 r2 r3 r4 r5 r6 r7
      obtain ⟨wc, hwc⟩ : ∃ wc, wc = wb.drewN nq := ⟨_, rfl⟩
      rw [← hwc]
      have RR := Lib.hid (show R8 wc g ⟨a, b, c0, d, e, f, g0, h0⟩ by rw [hwc]; exact R.out)
      have hglwc : g < wc.heap.size := by rw [hwc]; exact hglwb
      have BB := Lib.hid (show Below wf.heap.size wf wc by rw [hwc]; exact below_drewN HBr.out nq)
      clear R HBr hwc hglwb
      have R := RR
      have HBr := BB
      clear RR BB
      obtain ⟨r0, r1, r2, r3, r4, r5, r6, r7⟩ := R.out
      dsimp only at r0 r1 r2 r3 r4 r5 r6 r7
      obtain ⟨z0, hz0⟩ : ∃ z0, z0 = Sig0 a := ⟨_, rfl⟩
      rw [← hz0]
      have HZ0 := Lib.hid hz0
      have hz0l : z0 < 4294967296 := by rw [hz0]; exact Sig0_lt o1
      clear hz0
      go_wp2_with fail
      go_quiet (fail)
      rw [majI o1 o2 o3]
      have hml : maj a b c0 < 4294967296 := xor_lt (xor_lt (and_lt o1) (and_lt o1)) (and_lt o2)
      obtain ⟨T2, hT2⟩ : ∃ T2, T2 = (z0 + maj a b c0) % 4294967296 := ⟨_, rfl⟩
      rw [show ((z0 : Int) + ((maj a b c0 : Nat) : Int)) % 4294967296 = ((T2 : Nat) : Int) from by omega]
      have hT2l : T2 < 4294967296 := by omega
      have HT2 := Lib.hid hT2
      clear hT2 hml
      clear r0 r1 r2 r3 r4 r5 r6 r7
      obtain ⟨we, hwe⟩ : ∃ we, we = wc.drewN nq := ⟨_, rfl⟩
      rw [← hwe]
      have RR := Lib.hid (show R8 we g ⟨a, b, c0, d, e, f, g0, h0⟩ by rw [hwe]; exact R.out)
      have hglwe : g < we.heap.size := by rw [hwe]; exact hglwc
      have BB := Lib.hid (show Below wf.heap.size wf we by rw [hwe]; exact below_drewN HBr.out nq)
      clear R HBr hwe hglwc
      have R := RR
      have HBr := BB
      clear RR BB
      obtain ⟨r0, r1, r2, r3, r4, r5, r6, r7⟩ := R.out
      dsimp only at r0 r1 r2 r3 r4 r5 r6 r7
      go_wp2_with fail
      (refine wp_region_quiet_tail 26 (by kernel_rfl) (by kernel_rfl) ?_; simp only [List.take_succ_cons, List.take_zero, List.drop_succ_cons, List.drop_zero]; (repeat (go_big_quiet_step (fail))); refine wpQuiet_nil ?_; intro _ hw'; obtain ⟨nq, hw''⟩ := hw'; subst hw'')
      clear r0 r1 r2 r3 r4 r5 r6 r7
      obtain ⟨wz, hwz⟩ : ∃ wz, wz = we.drewN nq := ⟨_, rfl⟩
      rw [← hwz]
      have RR := Lib.hid (show R8 wz g ⟨a, b, c0, d, e, f, g0, h0⟩ by rw [hwz]; exact R.out)
      have hglwz : g < wz.heap.size := by rw [hwz]; exact hglwe
      have BB := Lib.hid (show Below wf.heap.size wf wz by rw [hwz]; exact below_drewN HBr.out nq)
      clear R HBr hwz hglwe
      have R := RR
      have HBr := BB
      clear RR BB
      go_wp2_with fail
      have ht : tt ⟨a, b, c0, d, e, f, g0, h0⟩ x k0 = T := by
        rw [HT.out, HZ1.out]; rfl
      refine ⟨⟨i + 1, wz.heap.size, 8, by go_num, by omega, rfl, HBr.out.size, by simp, ?_, HBr.out.alloc HBr.out.size _⟩, by simp [intOf]; omega⟩
      rw [HST.out]
      refine R8.new wz 24 (rnd x k0 ⟨a, b, c0, d, e, f, g0, h0⟩) _ _ ?_ ?_
      · show ((T : Int) + (T2 : Int)) % 4294967296 = (((tt ⟨a, b, c0, d, e, f, g0, h0⟩ x k0 + Sig0 a + maj a b c0) % 4294967296 : Nat) : Int)
        rw [ht, ← HZ0.out]
        have := HT2.out
        omega
      · show ((d : Int) + (T : Int)) % 4294967296 = (((d + tt ⟨a, b, c0, d, e, f, g0, h0⟩ x k0) % 4294967296 : Nat) : Int)
        rw [ht]
        omega
    · obtain rfl : i = 64 := by omega
      rw [show ((64 : Nat) : Int) = 64 from rfl]
      have hO : OgRel wf X H (.slice (some ⟨g, 0, none⟩) 8 cp) (.int .i64 64) wr0 := ⟨64, g, cp, rfl, Nat.le_refl _, rfl, hg, hgl, hR8, hBr⟩
      have HO := Lib.hid hO
      clear hR8 hBr hO KC HCX HXL HHT hi64
      go_wp2_with fail
      exact HQ.out _ _ _ _ _ _ _ _ _ _ _ _ _ _ _ _ _ _ _ _ _ _ _ _ _ _ _ _ _ _ _ _ _ _ _ _ _ _ _ _ _ _ _ _ _ _ _ _ _ _ _ _ _ _ _ _ _ _ _ _ _ _ _ _ _ _ _ _ _ _ _ _ _ _ _ _ _ _ _ _ _ _ _ _ _ _ _ _ _ _ _ _ _ _ _ _ _ _ _ _ _ _ _ _ _ _ _ _ _ _ _ _ _ _ _ _ _ _ _ _ _ _ HO.out
end Go.Proofs.YtejbookaflnpeaaDoor
