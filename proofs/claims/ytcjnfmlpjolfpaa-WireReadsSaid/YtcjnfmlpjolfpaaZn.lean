/- An append of so many zeros ('append(b, make([]byte, n)...)'), and Writer.Sum. -/
import Derived.Test.YtcjnfmlpjolfpaaRs
import Derived.Test.YtcjnfmlpjolfpaaQt
import Derived.Deep.DeepCutAuto
import Derived.Laws.CopyOwn
namespace Go.Proofs.Ytcjnfmlpjolfpaa
open Go Go.RowKit
set_option linter.unusedVariables false
set_option linter.unusedSimpArgs false
section
variable {P : Program} (w : World)
def zs8 (m : Nat) : List Value := List.replicate m (.int .u8 0)
theorem zeroCells_u8 (m : Nat) : Builtin.zeroCells #[.int .u8 0] m = (zs8 m).toArray := by
  unfold Builtin.zeroCells zs8
  apply Array.ext
  · simp
  · intro j h1 h2
    simp [Nat.mod_one]
theorem run_zeros (base : Nat) (t ti ty e : TypeId) (i : TypeInfo) (ht : P.underlying t = some (.slice e)) (hti : P.underlying ti = some (.int .i64)) (hi : P.info? e = some i) (hz : i.zero = some (.int .u8 0))
    (hsize : i.size = 1) (hby : i.bytes = 1) (v : Value) (n : Nat) (xs : List Value) (hown : w.ownsRow base e 1 v n xs) (m : Nat) (hm0 : 0 < m) (hm : m ≤ 1000) (h63 : n + m ≤ 140737488355328) (hbase : base ≤ w.heap.size) :
    ∃ v' w', (Builtin.append_ #[t, ti] ty #[v, .int .i64 (m : Int)]).run P w = .ok v' w' ∧ Grew w w' base e 1 v v' (n + m) (xs ++ zs8 m) := by
  have hl : (zs8 m).length = m := by simp [zs8]
  have hlen : (xs ++ zs8 m).length = (n + m) * 1 := by rw [List.length_append, hown.1, hl]; omega
  have hwr : IntKind.i64.wrap (m : Int) = m := by rw [IntKind.wrap_i64]; omega
  have hneg : ¬ ((m : Int) < 0) := by omega
  have hbig : ¬ ((281474976710656 : Int) < (m : Int)) := by omega
  have hm1 : ¬ m = 0 := by omega
  have hone : ∀ u ∈ zs8 m, u.oneCell' = true := fun u hu => by rw [(List.mem_replicate.1 hu).2]; rfl
  have hzc : Builtin.zeroCells (Value.int .u8 0).cells m = (zs8 m).toArray := zeroCells_u8 m
  have hai : ∀ w' : World, (asInt (.int .i64 (m : Int))).run P w' = .ok (m : Int) w' := fun _ => rfl
  have hle : ¬ ((m : Int) ≤ 0) := by omega
  have grown : ∀ (old : Nat), old < n + m → ∀ (row : Option Nat),
      (w.drew.alloc (.cells ((xs ++ zs8 m).toArray ++ Builtin.zeroCells (Value.int .u8 0).cells (grownCap w (n + m) old e - (n + m))) e)).ownsRow base e 1
        (.slice (some ⟨w.heap.size, 0, none⟩) (n + m) (grownCap w (n + m) old e)) (n + m) (xs ++ zs8 m) ∧
      w.grownBy (w.drew.alloc (.cells ((xs ++ zs8 m).toArray ++ Builtin.zeroCells (Value.int .u8 0).cells (grownCap w (n + m) old e - (n + m))) e)) row := by
    intro old ho row
    have hge := grownCap_ge w (n + m) old e
    have hcm : grownCap w (n + m) old e ≤ maxLen := grownCap_le_maxLen w (n + m) old e (by unfold maxLen; omega)
    refine ⟨⟨hlen, .inr ⟨w.heap.size, _, _, rfl, hbase, heap_alloc_new w.drew _, hge, hcm, ?_, ?_⟩⟩, ⟨rfl, rfl, rfl, by simp, fun k hk _ => Below.heap_alloc w.drew _ k hk⟩⟩
    · rw [show (Value.int .u8 0).cells = #[.int .u8 0] from rfl, zeroCells_u8]
      simp only [Array.size_append, List.size_toArray, hlen]
      simp [zs8]
      omega
    · simp only [Array.toList_append]
      rw [← hlen]
      exact List.take_left
  have big : ∀ old, old < n + m → ¬ (9223372036854775807 < ((n : Int) + (m : Int))) ∧ ¬ (281474976710656 < Builtin.nextslicecap (n + m) old * 1) := fun old ho => by
    have h := growslice_fits (bytes := 1) ho (by omega)
    exact ⟨by omega, by omega⟩
  have growZ : ∀ (bs : Option Addr) (sLen sCap : Nat) (olds : List Value), (Builtin.firstCells i.size sLen (.slice bs sLen sCap)).run P w.drew = .ok olds.toArray w.drew → sCap < sLen + m → ¬ (9223372036854775807 < ((sLen : Int) + (m : Int))) → ¬ (281474976710656 < Builtin.nextslicecap (sLen + m) sCap * 1) →
      (Builtin.append_ #[t, ti] ty #[.slice bs sLen sCap, .int .i64 (m : Int)]).run P w = .ok (.slice (some ⟨w.heap.size, 0, none⟩) (sLen + m) (grownCap w (sLen + m) sCap e)) (w.drew.alloc (.cells ((olds ++ zs8 m).toArray ++ Builtin.zeroCells (Value.int .u8 0).cells (grownCap w (sLen + m) sCap e - (sLen + m))) e)) := by
    intro bs sLen sCap olds hold hlt b1 b2
    have hn : ¬ (sLen + m ≤ sCap) := by omega
    rw [Nat.mul_one] at b2
    rw [hsize] at hold
    simp [Builtin.append_, run_underlying ht, run_underlying hti, sizeOf, typeInfo, zeroValue, hi, hz, hsize, hby, hai, hle, hwr, hneg, hbig, hm1, hn, b1, b2, hzc, Question.forced, hold, newRow, grownCap]
    try (first | done | (congr 2; apply Array.ext'; simp [List.append_assoc]))
  rcases hown.2 with ⟨rfl, rfl⟩ | ⟨g, cap, cur, rfl, hbg, hg, hnc, hcm, hcs, htake⟩
  · have hx : xs = [] := List.eq_nil_of_length_eq_zero (by simpa using hown.1)
    subst hx
    have hgr := grown 0 (by omega) (Value.ownBlock (.slice none 0 0))
    obtain ⟨b1, b2⟩ := big 0 (by omega)
    have hold : (Builtin.firstCells i.size 0 (.slice none 0 0)).run P w.drew = .ok ([] : List Value).toArray w.drew := by simp [Builtin.firstCells]
    exact ⟨_, _, growZ none 0 0 [] hold (by omega) b1 b2, hgr.1, hgr.2, Or.inr rfl⟩
  · by_cases hroom : n + m ≤ cap
    · have hfit : n * 1 + (zs8 m).length ≤ cur.size := by rw [hl, hcs]; omega
      have hst := run_storeCells_at P g (n * 1) e (zs8 m) 0 cur w hg (by simpa using hfit) hone
      simp only [Nat.add_zero] at hst
      have hr : (Builtin.append_ #[t, ti] ty #[.slice (some ⟨g, 0, none⟩) n cap, .int .i64 (m : Int)]).run P w =
          .ok (.slice (some ⟨g, 0, none⟩) (n + m) cap) (w.setRow g (cur.toList.take (n * 1) ++ zs8 m ++ cur.toList.drop (n * 1 + (zs8 m).length)).toArray) := by
        simp [Builtin.append_, run_underlying ht, run_underlying hti, sizeOf, typeInfo, zeroValue, hi, hz, hsize, hby, hai, hle, hwr, hneg, hbig, hm1, hroom, hzc, Addr.add_lit]
        simp at hst
        rw [hst]
        rfl
      refine ⟨_, _, hr, ⟨hlen, .inr ⟨g, cap, _, rfl, hbg, setRow_heap w g cur _ e _ hg, hroom, hcm, ?_, ?_⟩⟩, ⟨rfl, rfl, rfl, by simp, fun k _ hk => setRow_other w g k _ (fun e => hk (by simp [Value.ownBlock, e]))⟩, Or.inl rfl⟩
      · simp only [List.size_toArray, List.length_append, List.length_take, List.length_drop, Array.length_toList]
        omega
      · rw [htake, ← hlen]
        exact List.take_left
    · have holds : ∀ j u, xs[j]? = some u → w.cell? ((⟨g, 0, none⟩ : Addr).add j) = some u := hown.cells (g := g) rfl
      have hold := run_firstCells_some (P := P) w.drew i.size n ⟨g, 0, none⟩ n cap xs (by rw [hsize]; exact hown.1) (by simpa using holds)
      obtain ⟨b1, b2⟩ := big cap (by omega)
      have hgr := grown cap (by omega) (Value.ownBlock (.slice (some ⟨g, 0, none⟩) n cap))
      exact ⟨_, _, growZ (some ⟨g, 0, none⟩) n cap xs hold (by omega) b1 b2, hgr.1, hgr.2, Or.inr rfl⟩
theorem wpList_zeros {ops : Array Oper} {rest : List Oper} {o : Oper} {a : Act} {Q : Exit → Act → World → Prop} (hgd : o.guard = none) (s x : Operand) (t ti : TypeId)
    (ho : o.op = .call { callee := .builtin .append, args := #[s, x], argTypes := #[t, ti] })
    (base : Nat) (e : TypeId) (i : TypeInfo) (ht : P.underlying t = some (.slice e)) (hti : P.underlying ti = some (.int .i64)) (hi : P.info? e = some i) (hz : i.zero = some (.int .u8 0))
    (hsize : i.size = 1) (hby : i.bytes = 1) (v : Value) (n : Nat) (xs : List Value) (hsv : a.eval s = v) (hown : w.ownsRow base e 1 v n xs) (m : Nat) (hx : a.eval x = .int .i64 (m : Int)) (hm0 : 0 < m) (hm : m ≤ 1000) (h63 : n + m ≤ 140737488355328) (hbase : base ≤ w.heap.size)
    (h : ∀ v' w', Grew w w' base e 1 v v' (n + m) (xs ++ zs8 m) → wpList P ops Q rest (a.put o.dst v') w') :
    wpList P ops Q (o :: rest) a w := by
  refine wpList_plain hgd fun K hK => ?_
  obtain ⟨v', w', hr, h2⟩ := run_zeros (P := P) w base t ti o.type e i ht hti hi hz hsize hby v n xs hown m hm0 hm h63 hbase
  unfold Oper.wp execOp
  simp only [ho, resolve, invoke, builtin, Sem.run_bind, Sem.run_pure, Result.andThen_ok, List.map_toArray, List.map_cons, List.map_nil, hsv, hx, hr]
  exact hK _ _ (h v' w' h2)
end
theorem lt_of_rowW {w : World} {g : Nat} {x : Obj} (h : w.heap[g]? = some x) : g < w.heap.size := (Array.getElem?_eq_some_iff.1 h).1
theorem cell_of_rowW (w : World) (g j : Nat) (cs : Array Value) (t : TypeId) (fr : Nat × Nat) (hg : w.heap[g]? = some (.cells cs t fr)) : w.cell? ⟨g, j, none⟩ = cs[j]? := by simp [World.cell?, hg]
theorem Fr.mono' {a w : World} {b : Nat} (h : Fr a w b none) (r : Option Nat) : Fr a w b r := ⟨h.os, h.tape, h.output, h.size, fun k h1 h2 _ => h.block k h1 h2 (by simp)⟩
set_option maxRecDepth 100000 in
set_option maxHeartbeats 1600000 in
theorem wsum_any {w : World} {b : Nat} {r : Option Nat} {xs : List UInt8} (hw : Wr w b r xs) (S : List UInt8) (hS : S.length = 32) (hsz : xs.length + 40 ≤ 140737488355328) :
    Calls Try.prog 15 #[.pointer (some ⟨b, 0, none⟩), .agg (bvs S).toArray] w fun e w' => e = .returned (.tuple #[]) ∧ Wrote w w' b r (xs ++ S) := by
  obtain ⟨i0, hi, hz0, hz1, hz2⟩ := info_parts Try.info5
  have hne := hw.ne
  have hbl := hw.lt
  obtain ⟨k3, hk3⟩ : ∃ k, k = w.heap.size := ⟨_, rfl⟩
  obtain ⟨w1, hw1⟩ : ∃ w1, w1 = w.alloc (.cells (bvs S).toArray 29) := ⟨_, rfl⟩
  have r3 : w1.heap[k3]? = some (.cells (bvs S).toArray 29 (0, 0)) := by rw [hw1, hk3]; exact heap_alloc_new _ _
  have hW1 : Wr w1 b r xs := by rw [hw1]; exact hw.alloc _
  have hF1 : Fr w w1 b none := by rw [hw1]; exact (Fr.refl w b none).alloc _
  have hs1 : w1.heap.size = w.heap.size + 1 := by rw [hw1]; exact Array.size_push _
  obtain ⟨ax, cx, h0, f0, hown, hr⟩ := hW1.cell
  have hb1 : w1.heap[b]? = w.heap[b]? := by rw [hw1]; exact Below.heap_alloc w _ b hbl
  obtain ⟨n, hn⟩ : ∃ n, n = xs.length := ⟨_, rfl⟩
  rw [← hn] at h0 hown
  have OWN := Lib.hid hown
  have R3 := Lib.hid r3
  have HW1 := Lib.hid hw1
  have HK3 := Lib.hid hk3
  have HR := Lib.hid hr
  have L3 := Lib.hid (show n + 32 ≤ 140737488355328 by omega)
  have hti : Try.prog.underlying 3 = some (.int .i64) := Try.underlying3
  have HN := Lib.hid hn
  have HWW := Lib.hid hW1
  have HFF := Lib.hid hF1
  have HS1 := Lib.hid hs1
  have HSS := Lib.hid hS
  clear hown r3 hw1 hk3 hn hr hW1 hF1 hs1 hS
  go_enter Try.func15, Try.ntmps15
  go_upto_region 1 with fail
  rw [← HW1.out, ← HK3.out]
  go_wp2_with (at_builtin; refine wpList_zeros _ rfl (.tmp 14) (.const (.int .i64 32)) 24 3 rfl 0 5 i0 Try.underlying24 hti hi hz0 hz1 hz2 _ n (bvs xs) rfl OWN.out 32 rfl (by decide) (by decide) L3.out (Nat.zero_le _) ?next)
  case next =>
    rintro v' w2 ⟨hown2, hgrow, hat⟩
    have hr' : (Value.slice ax n cx).ownBlock = r := by have := HR.out; rwa [← HN.out] at this
    rw [hr'] at hgrow hat
    rcases hown2.2 with ⟨_, h00⟩ | ⟨g, cap, cur, rfl, hbg, hg, hnc, hcm, hcs, htake⟩
    · omega
    have hgr : some g = r ∨ g = w1.heap.size := by
      rcases hat with h | h
      · exact .inl h
      · exact .inr (by simpa [Value.ownBlock] using h)
    have hgb : g ≠ b := by
      rcases hgr with h | h
      · intro e; subst e; exact hne h.symm
      · have := HS1.out; omega
    have hk3b : k3 ≠ b := by have := HK3.out; omega
    have hgk : g ≠ k3 := by
      rcases hgr with h | h
      · intro e; have := hw.rlt g h.symm; have := HK3.out; omega
      · have := HS1.out; have := HK3.out; omega
    have hrk : r ≠ some k3 := fun e => by have := hw.rlt k3 e; have := HK3.out; omega
    have hb2 : w2.heap[b]? = w1.heap[b]? := hgrow.block b (by have := HS1.out; omega) (fun e => hne e.symm)
    have r32 : w2.heap[k3]? = some (.cells (bvs S).toArray 29 (0, 0)) := (hgrow.block k3 (lt_of_rowW R3.out) (fun e => hrk e.symm)).trans R3.out
    have k0 := (World.cell?_of_block (a := ⟨b, 0, none⟩) hb2).trans h0
    have e0 := (World.frozen?_of_block (a := ⟨b, 0, none⟩) hb2).trans f0
    obtain ⟨w3, hw3⟩ : ∃ w3, w3 = w2.setCell ⟨b, 0, none⟩ (.slice (some ⟨g, 0, none⟩) (n + 32) cap) := ⟨_, rfl⟩
    have r33 : w3.heap[k3]? = some (.cells (bvs S).toArray 29 (0, 0)) := by rw [hw3]; exact (Below.heap_setCell w2 ⟨b, 0, none⟩ _ k3 hk3b).trans r32
    have g33 : w3.heap[g]? = some (.cells cur 5 (0, 0)) := by rw [hw3]; exact (Below.heap_setCell w2 ⟨b, 0, none⟩ _ g hgb).trans hg
    obtain ⟨v0, hv0, _⟩ := HWW.out
    have b33 : w3.heap[b]? = some (.cells #[.slice (some ⟨g, 0, none⟩) (n + 32) cap] 26 (0, 0)) := by
      rw [hw3]
      have h2 := hb2.trans hv0
      simp [World.setCell, Array.getElem?_modify, h2]
    have c3 : w3.cell? ⟨b, 0, none⟩ = some (.slice (some ⟨g, 0, none⟩) (n + 32) cap) := by simp [World.cell?, b33]
    have F3 : Fr w w3 b r := by
      rw [hw3]
      exact ((HFF.out.mono' r).grown hgrow).set 0 _
    have hcl : n + 32 ≤ cur.toList.length := by
      have : cur.toList.length = cur.size := Array.length_toList
      omega
    have hct : cur.toList.take (n + 32) = bvs xs ++ zs8 32 := by rw [Nat.mul_one] at htake; exact htake
    have hcp1 : ¬ cap = n := by omega
    have hcp2 : n ≤ cap := by omega
    have hcp3 : n + 32 ≤ cap := hnc
    have HC := Lib.hid (And.intro hcl hct)
    have R33 := Lib.hid r33
    have G33 := Lib.hid g33
    have B33 := Lib.hid b33
    have FF3 := Lib.hid F3
    have HGR := Lib.hid hgr
    have HGN := Lib.hid (And.intro hgb hgk)
    have HCS := Lib.hid (And.intro hbg (And.intro hcm hcs))
    have HW3 := Lib.hid hw3
    clear hown2 hgrow hat hg hcs htake hgr hgb hk3b hgk hrk hb2 r32 hw3 r33 g33 b33 F3 hcl hct hv0 hr'
    go_upto_region 3 with fail
    rw [← HW3.out]
    clear k0 e0
    (refine wp_region_quiet_tail 7 (by kernel_rfl) (by kernel_rfl) ?_; simp only [List.take_succ_cons, List.take_zero, List.drop_succ_cons, List.drop_zero]; (repeat (go_big_quiet_step (fail))); refine wpQuiet_nil ?_; intro _ hw'; obtain ⟨nq, hw''⟩ := hw'; subst hw'')
    have HS3 := HSS.out
    refine wpList_copy_own rfl (.tmp 23) (.tmp 24) 24 24 rfl 5 Try.underlying24 (by kernel_rfl) g n 32 (cap - n) ⟨k3, 0, none⟩ 32 32 rfl rfl cur 5 G33.out (bvs S) (by rw [bvs_length, HS3]; rfl) (fun j u hu => by
      rw [Addr.add_mid, Nat.zero_add, cell_of_rowW (w3.drewN nq) k3 j _ _ _ R33.out]
      simpa using hu) (by rw [bvs_length, HS3]; have := HC.out.1; simpa using this) (bvs_one S) ?_
    obtain ⟨w4, hw4⟩ : ∃ w4, w4 = (w3.drewN nq).setRow g (cur.toList.take n ++ (bvs S ++ cur.toList.drop (n + (bvs S).length))).toArray := ⟨_, rfl⟩
    rw [← hw4]
    have hSl : (bvs S).length = 32 := by rw [bvs_length, HS3]
    have b44 : w4.heap[b]? = some (.cells #[.slice (some ⟨g, 0, none⟩) (n + 32) cap] 26 (0, 0)) := by rw [hw4]; exact (setRow_other _ g b _ (fun e => HGN.out.1 e.symm)).trans B33.out
    have g44 : w4.heap[g]? = some (.cells (cur.toList.take n ++ (bvs S ++ cur.toList.drop (n + (bvs S).length))).toArray 5 (0, 0)) := by rw [hw4]; exact setRow_heap _ g _ _ _ (0, 0) G33.out
    have htn : cur.toList.take n = bvs xs := by
      have h1 := congrArg (List.take n) HC.out.2
      rw [List.take_take, Nat.min_eq_left (by omega), List.take_append_of_le_length (by rw [bvs_length, ← HN.out]; exact Nat.le_refl _)] at h1
      rw [h1]
      exact List.take_of_length_le (by rw [bvs_length, ← HN.out]; exact Nat.le_refl _)
    have hxl : (xs ++ S).length = n + 32 := by rw [List.length_append, HS3, HN.out]
    have own4 : w4.ownsRow 0 5 1 (.slice (some ⟨g, 0, none⟩) (n + 32) cap) (xs ++ S).length (bvs (xs ++ S)) := by
      rw [hxl]
      refine ⟨by rw [bvs_length, hxl]; omega, .inr ⟨g, cap, _, rfl, HCS.out.1, g44, hcp3, HCS.out.2.1, ?_, ?_⟩⟩
      · have h2 := HCS.out.2.2
        have h3 : cur.toList.length = cur.size := Array.length_toList
        simp only [List.size_toArray, List.length_append, List.length_take, List.length_drop, hSl]
        omega
      · rw [htn, ← List.append_assoc, ← bvs_append, Nat.mul_one]
        have : (bvs (xs ++ S)).length = n + 32 := by rw [bvs_length, hxl]
        rw [← this]
        exact List.take_left
    have F4 : Fr w w4 b r := by
      have h := FF3.out
      refine ⟨by rw [hw4]; exact h.os, by rw [hw4]; exact h.tape, by rw [hw4]; exact h.output, by rw [hw4]; simpa [World.setRow] using h.size, fun k h1 h2 h3 => ?_⟩
      have hkg : k ≠ g := by
        intro e
        subst e
        rcases HGR.out with e | e
        · exact h3 e
        · have := HS1.out; omega
      rw [hw4]
      exact (setRow_other _ g k _ hkg).trans (h.block k h1 h2 h3)
    have FIN := Lib.hid (show Wrote w w4 b r (xs ++ S) from ⟨some g, ⟨_, b44, own4, rfl⟩, F4, by
      rcases HGR.out with e | e
      · exact .inl e
      · exact .inr ⟨g, rfl, by have := HS1.out; omega⟩⟩)
    clear hw4 hSl b44 g44 htn hxl own4 F4
    go_wp2
    go_end0
    exact ⟨rfl, FIN.out⟩
end Go.Proofs.Ytcjnfmlpjolfpaa
