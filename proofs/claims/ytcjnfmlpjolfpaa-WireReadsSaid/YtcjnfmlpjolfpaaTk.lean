/- The reference's reading: fail, Take, Signed, Low. -/
import Derived.Test.YtcjnfmlpjolfpaaWf
import Derived.Test.YtcjnfmlpjolfpaaRs
import Derived.Laws.ResultCell
namespace Go.Proofs.Ytcjnfmlpjolfpaa
open Go Go.RowKit
set_option linter.unusedVariables false

def stv (s : ByteArray) (c : Int) : Value := .agg #[.string s, .int .i64 c]
set_option maxRecDepth 100000 in
set_option maxHeartbeats 800000 in
theorem refFail_any (s : ByteArray) (c d : Int) (w : World) : Calls Try.prog 39 #[stv s c, .int .i64 d] w fun e w' => e = .returned (stv ⟨#[]⟩ (fe c d)) ∧ Below w.heap.size w w' := by
  unfold stv fe
  by_cases hc : c = 0
  · have hb : (c != 0) = false := by simpa using hc
    rw [if_pos hc]
    go_enter Try.func39, Try.ntmps39
    go_wp2_with fail
    have g := heap_alloc_new (w.alloc (.cells #[.string s, .int .i64 c] 57)) (.cells #[.string ⟨#[]⟩, .int .i64 d] 57)
    rw [World.size_alloc, hc] at g
    refine bodyPost_ret (results_cell_row rfl _ _ (w.heap.size + 1) 57 #[.string ⟨#[]⟩, .int .i64 d] (0, 0) _ rfl g Try.underlying57 rfl (by kernel_rfl)) rfl ?_
    exact ⟨rfl, ((Below.refl _ _).alloc (Nat.le_refl _) _).alloc (by simp) _⟩
  · have hb : (c != 0) = true := by simpa using hc
    rw [if_neg hc]
    go_enter Try.func39, Try.ntmps39
    go_wp2_with fail
    have g := heap_alloc_new (w.alloc (.cells #[.string s, .int .i64 c] 57)) (.cells #[.string ⟨#[]⟩, .int .i64 c] 57)
    rw [World.size_alloc] at g
    refine bodyPost_ret (results_cell_row rfl _ _ (w.heap.size + 1) 57 #[.string ⟨#[]⟩, .int .i64 c] (0, 0) _ rfl g Try.underlying57 rfl (by kernel_rfl)) rfl ?_
    exact ⟨rfl, ((Below.refl _ _).alloc (Nat.le_refl _) _).alloc (by simp) _⟩
set_option maxRecDepth 100000 in
set_option maxHeartbeats 800000 in
theorem refSigned_any (u : Nat) (hu : u < 18446744073709551616) (w : World) : Calls Try.prog 30 #[.int .u64 (u : Int)] w fun e w' => e = .returned (.int .i64 (zag u)) ∧ w = w' := by
  have hz : zag u = if u % 2 = 1 then -((u / 2 : Nat) : Int) - 1 else ((u / 2 : Nat) : Int) := rfl
  by_cases h : u % 2 = 0
  · have h2 : (u : Int) % 2 = 0 := by omega
    have hq : (u : Int) / 2 = ((u / 2 : Nat) : Int) := by omega
    rw [if_neg (by omega)] at hz
    obtain ⟨q, hqd⟩ : ∃ q, q = u / 2 := ⟨_, rfl⟩
    have hql : (q : Int) < 9223372036854775808 := by omega
    rw [← hqd] at hz hq
    have HZ := Lib.hid hz
    clear hz hu hqd h
    go_enter Try.func30, Try.ntmps30
    go_wp2_with fail
    go_ret
    exact ⟨by rw [HZ.out]; rfl, rfl⟩
  · have h2 : (u : Int) % 2 = 1 := by omega
    have hq : (u : Int) / 2 = ((u / 2 : Nat) : Int) := by omega
    rw [if_pos (by omega)] at hz
    obtain ⟨q, hqd⟩ : ∃ q, q = u / 2 := ⟨_, rfl⟩
    have hql : (q : Int) < 9223372036854775808 := by omega
    rw [← hqd] at hz hq
    have HZ := Lib.hid hz
    clear hz hu hqd h
    go_enter Try.func30, Try.ntmps30
    go_wp2_with fail
    go_ret
    exact ⟨by rw [HZ.out]; rfl, rfl⟩
/-- The next so many bytes: they, what is left, the error. -/
def tk (L : List UInt8) (c : Int) (n : Nat) : List UInt8 × List UInt8 × Int :=
  if c ≠ 0 then ([], [], c) else if L.length < n then ([], [], 6) else (L.take n, L.drop n, 0)
theorem str_nil : (⟨#[]⟩ : ByteArray) = str [] := rfl
theorem str_take (L : List UInt8) (n : Nat) (h : n ≤ L.length) : (str L).extract 0 n = str (L.take n) := by
  apply ByteArray.ext
  simp [str, ByteArray.data_extract]
theorem str_drop (L : List UInt8) (n : Nat) : (str L).extract n (str L).size = str (L.drop n) := by
  apply ByteArray.ext
  simp [str, ByteArray.data_extract, ByteArray.size]
  exact List.take_of_length_le (by simp)
theorem results_tmp_row {fn : Func} {p u : Tmp} {ty : TypeId} (h : fn.results = #[.tmp u, .cell p ty]) (tmps : Array Value) (w : World) (g : Nat) (t : TypeId) (cs : List Value) (fr : Nat × Nat) (d : TypeDesc) (v : Value)
    (hv : tmps.getD u undef = v) (hp : tmps.getD p undef = .pointer (some ⟨g, 0, none⟩)) (hg : w.heap[g]? = some (.cells cs.toArray t fr)) (hu : Try.prog.underlying ty = some d) (hd : d.isRow = true) (hi : (Try.prog.info? ty).map (·.size) = some cs.length) :
    (results fn tmps).run Try.prog w = .ok (.tuple #[v, .agg cs.toArray]) w := by
  have hp' : tmps[p]?.getD undef = .pointer (some ⟨g, 0, none⟩) := by simpa using hp
  have hv' : tmps[u]?.getD undef = v := by simpa using hv
  have hl := run_loadVar_mid (P := Try.prog) w g 0 ty cs d (fun j u hu => by
    rw [Nat.zero_add, cell_of_row w g j _ _ _ hg]
    simpa using hu) hu hd hi
  simp [results, h, hp', hv', asAddr, hl]
set_option maxRecDepth 100000 in
set_option maxHeartbeats 800000 in
theorem refTake_any (L : List UInt8) (c : Int) (n : Nat) (hn : n ≤ 1000000) (hL : L.length ≤ 1000000) (w : World) : Calls Try.prog 28 #[stv (str L) c, .int .i64 (n : Int)] w fun e w' =>
    e = .returned (.tuple #[.string (str (tk L c n).1), stv (str (tk L c n).2.1) (tk L c n).2.2]) ∧ Below w.heap.size w w' := by
  have hsz := wstr_size L
  obtain ⟨l, hl⟩ : ∃ l, l = L.length := ⟨_, rfl⟩
  rw [← hl] at hsz hL
  unfold tk
  rw [← hl]
  by_cases hc : c = 0
  · subst hc
    rw [if_neg (by simp)]
    by_cases hln : l < n
    · rw [if_pos hln]
      have hI : (l : Int) < (n : Int) := by omega
      have F := Lib.hid (fun W => refFail_any (str L) 0 6 W)
      unfold stv at *
      go_enter Try.func28, Try.ntmps28
      go_wp2_with fail
      refine (F.out _).mono ?_
      rintro e w2 ⟨rfl, hB⟩
      rw [show fe 0 6 = 6 from rfl]
      have z2 : w2.heap[w.heap.size + 1]? = some (.cells #[.string ⟨#[]⟩, .int .i64 0] 57 (0, 0)) := (hB.block (w.heap.size + 1) (by simp)).trans (show ((w.alloc (.cells #[.string (str L), .int .i64 0] 57)).alloc (.cells #[.string ⟨#[]⟩, .int .i64 0] 57)).heap[w.heap.size + 1]? = _ from by
        have := heap_alloc_new (w.alloc (.cells #[.string (str L), .int .i64 0] 57)) (.cells #[.string ⟨#[]⟩, .int .i64 0] 57)
        rwa [World.size_alloc] at this)
      have Z2 := Lib.hid z2
      have sz := Lib.hid (show (Try.prog.info? 57).map (·.size) = some (#[.string ⟨#[]⟩, .int .i64 6] : Array Value).size by kernel_rfl)
      have r4 := setRow_heap w2 (w.heap.size + 1) _ (#[.string ⟨#[]⟩, .int .i64 6] : Array Value) 57 (0, 0) z2
      have hBw : Below w.heap.size w w2 := (((Below.refl _ _).alloc (Nat.le_refl _) _).alloc (by simp) _).trans (hB.mono (by simp only [World.size_alloc]; omega))
      have R4 := Lib.hid r4
      have HBW := Lib.hid hBw
      clear z2 r4 hBw hB
      go_wp2_with (refine wpList_store_whole rfl 57 (.tmp 5) (.tmp 17) rfl (w.heap.size + 1) 57 #[.string ⟨#[]⟩, .int .i64 0] #[.string ⟨#[]⟩, .int .i64 6] rfl rfl Z2.out sz.out rfl (by kernel_rfl) ?_)
      refine bodyPost_ret (results_tmp_row rfl _ _ (w.heap.size + 1) 57 [.string ⟨#[]⟩, .int .i64 6] (0, 0) _ _ rfl rfl R4.out Try.underlying57 rfl (by kernel_rfl)) rfl ?_
      exact ⟨rfl, below_setRow HBW.out (by omega) _⟩
    · rw [if_neg hln]
      have hI : ¬ (l : Int) < (n : Int) := by omega
      have hI2 : n ≤ l := by omega
      have hI3 : (n : Int) ≤ (l : Int) := by omega
      have e1 := str_take L n (by omega)
      have e2 : (str L).extract n L.length = str (L.drop n) := by
        have := str_drop L n
        rwa [wstr_size] at this
      unfold stv
      go_enter Try.func28, Try.ntmps28
      go_wp2_with fail
      go_region
      have g2 := heap_alloc_new (w.alloc (.cells #[.string (str L), .int .i64 0] 57)) (.cells #[.string (str (L.drop n)), .int .i64 0] 57)
      rw [World.size_alloc] at g2
      have G2 := Lib.hid g2
      clear g2
      go_wp2_with fail
      refine bodyPost_ret (results_tmp_row rfl _ _ (w.heap.size + 1) 57 [.string (str (L.drop n)), .int .i64 0] (0, 0) _ _ rfl rfl G2.out Try.underlying57 rfl (by kernel_rfl)) rfl ?_
      exact ⟨rfl, (((Below.refl _ _).alloc (Nat.le_refl _) _).alloc (by simp) _).drew⟩
  · rw [if_pos hc]
    have hb : (c != 0) = true := by simpa using hc
    have F := Lib.hid (fun W => refFail_any (str L) c 6 W)
    unfold stv at *
    go_enter Try.func28, Try.ntmps28
    go_wp2_with fail
    refine (F.out _).mono ?_
    rintro e w2 ⟨rfl, hB⟩
    rw [show fe c 6 = c by simp [fe, hc]]
    have z2 : w2.heap[w.heap.size + 1]? = some (.cells #[.string ⟨#[]⟩, .int .i64 0] 57 (0, 0)) := (hB.block (w.heap.size + 1) (by simp)).trans (show ((w.alloc (.cells #[.string (str L), .int .i64 c] 57)).alloc (.cells #[.string ⟨#[]⟩, .int .i64 0] 57)).heap[w.heap.size + 1]? = _ from by
      have := heap_alloc_new (w.alloc (.cells #[.string (str L), .int .i64 c] 57)) (.cells #[.string ⟨#[]⟩, .int .i64 0] 57)
      rwa [World.size_alloc] at this)
    have Z2 := Lib.hid z2
    have sz := Lib.hid (show (Try.prog.info? 57).map (·.size) = some (#[.string ⟨#[]⟩, .int .i64 c] : Array Value).size by kernel_rfl)
    have r4 := setRow_heap w2 (w.heap.size + 1) _ (#[.string ⟨#[]⟩, .int .i64 c] : Array Value) 57 (0, 0) z2
    have hBw : Below w.heap.size w w2 := (((Below.refl _ _).alloc (Nat.le_refl _) _).alloc (by simp) _).trans (hB.mono (by simp only [World.size_alloc]; omega))
    have R4 := Lib.hid r4
    have HBW := Lib.hid hBw
    clear z2 r4 hBw hB
    go_wp2_with (refine wpList_store_whole rfl 57 (.tmp 5) (.tmp 17) rfl (w.heap.size + 1) 57 #[.string ⟨#[]⟩, .int .i64 0] #[.string ⟨#[]⟩, .int .i64 c] rfl rfl Z2.out sz.out rfl (by kernel_rfl) ?_)
    refine bodyPost_ret (results_tmp_row rfl _ _ (w.heap.size + 1) 57 [.string ⟨#[]⟩, .int .i64 c] (0, 0) _ _ rfl rfl R4.out Try.underlying57 rfl (by kernel_rfl)) rfl ?_
    exact ⟨rfl, below_setRow HBW.out (by omega) _⟩
end Go.Proofs.Ytcjnfmlpjolfpaa
