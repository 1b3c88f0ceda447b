/- All things of a chain, as a row. -/
import Derived.Test.YtjjmjbemflhlbaaNC
namespace Go.Proofs.Ytjjmjbemflhlbaa.Qu
open Go Go.RowKit Go.Proofs.Ytjjmjbemflhlbaa
open Go.Proofs.Ytjjmjbemflhlbaa.Hp (K3 kv KLit wf3 i64wf kv_inj)
open Go.Proofs.Ytjjmjbemflhlbaa.Dk (Frm below_drewN Frm.of_below Frm.setCell Frm.refl Frm.drewN Frm.drew Frm.transT Frm.turned Frm.trans Frm.mono Frm.setRow)
set_option linter.unusedVariables false
set_option linter.unusedSimpArgs false
set_option maxRecDepth 100000
variable {w : World} {b o : Nat} {R : Array Value} {ty : TypeId} {mo : Option Nat} {L : List Lk}
def wss (L : List Lk) : List Value := (L.map fun x => wcs x.key x.since).flatten
theorem wss_app (A B : List Lk) : wss (A ++ B) = wss A ++ wss B := by simp [wss]
def lenOf (v : Value) : Nat := match v with
  | .slice _ n _ => n
  | _ => 0
theorem wcs_mem (k : K3) (s : Int) : ∀ u ∈ wcs k s, u.oneCell' = true := by
  intro u hu
  simp only [wcs, List.mem_cons, List.not_mem_nil, or_false] at hu
  rcases hu with rfl | rfl | rfl | rfl <;> rfl
theorem infoWt : (Try.prog.info? 112).map (fun i => (i.zero, i.size, i.bytes)) = some (some (.agg (wcs k0 0).toArray), 4, 32) := by kernel_rfl
def thRel (w : World) (L : List Lk) (lv pv : Value) (wr : World) : Prop :=
  ∃ (A B : List Lk) (ao : Option Addr) (c : Nat), L = A ++ B ∧ lv = .slice ao A.length c ∧ pv = ptr (hd B none) ∧ wr.ownsRow w.heap.size 112 4 (.slice ao A.length c) A.length (wss A) ∧ Below w.heap.size w wr
theorem things_any (h : CAt w b o R ty mo L) (hl : L.length ≤ 100000) : Calls Try.prog 48 #[.pointer (some ⟨b, o, none⟩)] w fun e w' =>
    ∃ ao c, e = .returned (.slice ao L.length c) ∧ w'.ownsRow w.heap.size 112 4 (.slice ao L.length c) L.length (wss L) ∧ Below w.heap.size w w' := by
  obtain ⟨c0, c1, c2, f0, f1, f2⟩ := h.row.cells
  have H := Lib.hid h
  clear h c1 c2 f0 f1 f2
  go_enter Try.func48, Try.ntmps48
  go_wp2_with fail
  go_loopw [3, 4] (fun lv pv wr => thRel w L lv pv wr) (fun lv _ _ => L.length - lenOf lv)
  case atStart => exact ⟨[], L, none, 0, rfl, rfl, rfl, World.ownsRow_nil _ _ _ _, Below.refl _ _⟩
  case round =>
    obtain ⟨wq, rfl⟩ : ∃ wq : World, wq = wr := ⟨_, rfl⟩
    obtain ⟨A, B, ao, c, hL, rfl, rfl, hown, hb⟩ := hrel
    cases B with
    | nil =>
      rw [List.append_nil] at hL
      have R0 := Lib.hid (show ∃ ao' c', (Value.slice ao A.length c) = .slice ao' L.length c' ∧ wq.ownsRow w.heap.size 112 4 (.slice ao' L.length c') L.length (wss L) ∧ Below w.heap.size w wq from ⟨ao, c, by rw [hL], by rw [hL]; exact hown, hb⟩)
      clear hL hown hb
      rw [show ptr (hd ([] : List Lk) none) = .pointer none from rfl]
      go_wp2_with fail
      go_ret
      obtain ⟨ao', c', e1, e2, e3⟩ := R0.out
      exact ⟨ao', c', by rw [e1]; rfl, e2, e3⟩
    | cons x B =>
      have hx : ∃ p, LkAt w x p (hd B none) := by
        have hc := H.out.chain
        rw [hL, chain_app] at hc
        exact ⟨_, hc.2.1⟩
      obtain ⟨p, hx⟩ := hx
      have hxq : wq.heap[x.ad]? = some (.cells (x.cells p (hd B none)) 118 (0, 0)) := (hb.block x.ad (lt_of_rowW hx)).trans hx
      obtain ⟨a, ha⟩ : ∃ a, a = x.ad := ⟨_, rfl⟩
      have KX : ∀ j v, (wcs x.key x.since)[j]? = some v → wq.cell? ((⟨a, 0, none⟩ : Addr).add j) = some v := by
        intro j v hj
        rw [Addr.add_mid, Nat.zero_add, ha, cell_of_row wq x.ad j _ _ _ hxq]
        match j, hj with
        | 0, hj => exact hj
        | 1, hj => exact hj
        | 2, hj => exact hj
        | 3, hj => exact hj
        | k + 4, hj => simp [wcs] at hj
      have hpv : ptr (hd (x :: B) none) = .pointer (some ⟨a, 0, none⟩) := by rw [ha]; rfl
      rw [hpv]
      obtain ⟨n, hn⟩ : ∃ n, n = A.length := ⟨_, rfl⟩
      rw [← hn] at hown ⊢
      have hw4 : (wcs x.key x.since).length = 4 := rfl
      have hlen : n + 1 ≤ L.length := by rw [hL, hn]; simp
      have HL := Lib.hid hL
      have HN := Lib.hid hn
      have HO := Lib.hid hown
      have HB := Lib.hid hb
      have HXQ := Lib.hid hxq
      have HA := Lib.hid ha
      have HX := Lib.hid hx
      clear hL hn hown hb hxq ha hpv hx
      go_upto_region 4 with (first
        | (with_reducible show wpList _ _ _ _ _ _; refine wpList_load_allW rfl 112 (.tmp 18) rfl ⟨a, 0, none⟩ rfl (wcs x.key x.since) _ KX Try.underlying112 rfl (wtSize _ _) ?_)
        | (at_builtin; refine wpList_apK rfl (.tmp 15) (.tmp 20) 115 112 4 32 _ rfl Try.underlying115 infoWt (by decide) rfl w.heap.size _ _ _ _ rfl HO.out HB.out.size (wcs x.key x.since) rfl (wcs_mem _ _) rfl (by omega) ?_))
      intro ao' c' w' hown' hb' hk'
      have k5 : w'.cell? ⟨a, 5, none⟩ = some (ptr (hd B none)) := by
        rw [HA.out, cell_of_row w' x.ad 5 _ _ _ ((hk' x.ad (lt_of_rowW HXQ.out) (own_neK HO.out HXQ.out (by decide))).trans HXQ.out)]
        rfl
      have RL := Lib.hid (show thRel w L (.slice ao' (n + 1) c') (ptr (hd B none)) w' from ⟨A ++ [x], B, ao', c', by rw [HL.out]; simp, by rw [HN.out]; simp, rfl, by
        rw [wss_app]
        have e : (A ++ [x]).length = n + 1 := by rw [HN.out]; simp
        rw [e]
        simpa [wss] using hown', HB.out.trans (hb'.mono (Nat.le_refl _))⟩)
      have ML := Lib.hid (show L.length - (n + 1) < L.length - n by omega)
      clear hown' hb' hk' KX
      go_wp2_with fail
      trace_state
      exact ⟨RL.out, ML.out⟩
end Go.Proofs.Ytjjmjbemflhlbaa.Qu
