/- Each is done, and once: the hall of a law, told as one. -/
import Derived.Test.YtkmhbbcppjckiaaMYA
namespace Go.Proofs.Ytkmhbbcppjckiaa.Ma
open Go Go.RowKit Go.Proofs.Ytkmhbbcppjckiaa
open Go.Proofs.Ytkmhbbcppjckiaa.Hp (i64wf K3 wf3)
open Go.Proofs.Ytkmhbbcppjckiaa.Qu
open Go.Proofs.Ytkmhbbcppjckiaa.Dk (Frm below_drewN)
set_option linter.unusedVariables false
set_option linter.unusedSimpArgs false
set_option maxRecDepth 100000
variable {w w' wx : World} {X : Nat → Prop} {b gm n : Nat} {G : Int} {M : MM} {now : Int} {D : Nat → Bool}
/-- The hall at b: n tasks of which D are done; its map tells which. -/
structure HS (w : World) (b gm : Nat) (X : Nat → Prop) (n : Nat) (G : Int) (M : MM) (D : Nat → Bool) (now : Int) (wx : World) : Prop where
  hx : ∃ c S, HX w b gm X M now c S wx ∧ c + rem D n = n ∧ ∀ i : Nat, S (i : Int) = D i
  hj : HJ n M D now []
  few : n ≤ 40
  giv : 0 ≤ M.giv ∧ M.giv ≤ G
  tick : 0 ≤ now ∧ now ≤ 3000
/-- The hall with leases that are out of it. -/
structure HO (w : World) (b gm : Nat) (X : Nat → Prop) (n : Nat) (G : Int) (M : MM) (D : Nat → Bool) (now : Int) (F : List Ls) (a1 : Option Addr) (c1 : Nat) (wx : World) : Prop where
  hx : ∃ c S, HX w b gm (fun q => X q ∨ (Value.slice a1 F.length c1).ownBlock = some q) M now c S wx ∧ c + rem D n = n ∧ ∀ i : Nat, S (i : Int) = D i
  hj : HJ n M D now F
  few : n ≤ 40
  giv : 0 ≤ M.giv ∧ M.giv ≤ G
  tick : 0 ≤ now ∧ now ≤ 3000
  row : ∃ B0, LRow wx B0 a1 c1 F
  len : F.length ≤ 1000
theorem HS.wf (h : HS w b gm X n G M D now wx) : i64wf now := by
  have := h.tick
  exact WalkArith.wf_i64 (n := now) ⟨by omega, by omega⟩
theorem HO.wf {F : List Ls} {a1 : Option Addr} {c1 : Nat} (h : HO w b gm X n G M D now F a1 c1 wx) : i64wf now := by
  have := h.tick
  exact WalkArith.wf_i64 (n := now) ⟨by omega, by omega⟩
theorem HS.E (h : HS w b gm X n G M D now wx) : M.E.length ≤ 40 := Nat.le_trans h.hj.few h.few
theorem HS.below (h : HS w b gm X n G M D now wx) (hb : Below wx.heap.size wx w') : HS w b gm X n G M D now w' ∧ KX X wx w' := by
  obtain ⟨⟨c, S, hx, hc, hS⟩, hj, h1, h2, h3⟩ := h
  have := hx.below hb
  exact ⟨⟨⟨c, S, this.1, hc, hS⟩, hj, h1, h2, h3⟩, this.2⟩
theorem HS.less {X' : Nat → Prop} (h : HS w b gm X n G M D now wx) (hX : ∀ q, X' q → X q) : HS w b gm X' n G M D now wx := by
  obtain ⟨⟨c, S, hx, hc, hS⟩, hj, h1, h2, h3⟩ := h
  exact ⟨⟨c, S, hx.less hX, hc, hS⟩, hj, h1, h2, h3⟩
theorem HS.grow {G' : Int} (h : HS w b gm X n G M D now wx) (hG : G ≤ G') : HS w b gm X n G' M D now wx := by
  obtain ⟨hx, hj, h1, h2, h3⟩ := h
  exact ⟨hx, hj, h1, ⟨h2.1, by omega⟩, h3⟩
theorem HS.box (h : HS w b gm X n G M D now wx) (ob : Obj) : HS w b gm (fun q => X q ∨ q = wx.heap.size) n G M D now (wx.alloc ob) := by
  obtain ⟨⟨c, S, hx, hc, hS⟩, hj, h1, h2, h3⟩ := h
  exact ⟨⟨c, S, hx.box ob, hc, hS⟩, hj, h1, h2, h3⟩
theorem HS.belowX {Y : Nat → Prop} (h : HS w b gm X n G M D now wx) (hb : Below wx.heap.size wx w') (hY : ∀ q, Y q → wx.heap.size ≤ q ∧ q < w'.heap.size) : HS w b gm (fun q => X q ∨ Y q) n G M D now w' ∧ KX X wx w' := by
  obtain ⟨⟨c, S, hx, hc, hS⟩, hj, h1, h2, h3⟩ := h
  have := hx.belowX hb hY
  exact ⟨⟨⟨c, S, this.1, hc, hS⟩, hj, h1, h2, h3⟩, this.2⟩
theorem HS.cells (h : HS w b gm X n G M D now wx) : wx.cell? ⟨b, 197, none⟩ = some (.int .i64 now) ∧ wx.frozen? ⟨b, 197, none⟩ = false ∧ wx.cell? ⟨b, 198, none⟩ = some (.map (some gm)) := by
  obtain ⟨c, S, hx, _⟩ := h.hx
  exact hx.cells
theorem HS.later (h : HS w b gm X n G M D now wx) {now' : Int} (hl : now ≤ now') (hm : now' ≤ 3000) : HS w b gm X n G M D now' (wx.setCell ⟨b, 197, none⟩ (.int .i64 now')) ∧ KX X wx (wx.setCell ⟨b, 197, none⟩ (.int .i64 now')) := by
  obtain ⟨⟨c, S, hx, hc, hS⟩, hj, h1, h2, h3⟩ := h
  have := hx.tick now'
  exact ⟨⟨⟨c, S, this.1, hc, hS⟩, hj.later hl, h1, h2, ⟨by omega, hm⟩⟩, this.2⟩
theorem HS.len (h : HS w b gm X n G M D now wx) (ty : TypeId) : ∃ c : Nat, c + rem D n = n ∧ (Builtin.len_ #[103] ty #[.map (some gm)]).run Try.prog wx = .ok (.int .i64 (c : Int)) wx := by
  obtain ⟨c, S, hx, hc, _⟩ := h.hx
  exact ⟨c, hc, hx.map.len ty⟩
theorem rem_one (D : Nat → Bool) (n : Nat) : rem D (n + 1) = rem D n + if D n = true then 0 else 1 := by
  unfold rem
  rw [List.range_succ, List.filter_append, List.length_append]
  cases h : D n <;> simp [h]
theorem hs_add (h : HS w b gm X n G M D 0 wx) (hD : D n = false) (hn : n < 40) {j : Nat} (hj : j < 5) : Calls Try.prog 25 #[.pointer (some ⟨b, 0, none⟩), .agg (kcs (kh n)).toArray, .int .i64 (j : Int), .int .i64 0] wx fun e w' => e = .returned (.int .i64 0) ∧ HS w b gm X (n + 1) G (M.ad (kh n) (j : Int) 0) D 0 w' ∧ KX X wx w' := by
  have hE := h.E
  obtain ⟨⟨c, S, hx, hc, hS⟩, hJ, h1, h2, h3⟩ := h
  have hf := hJ.first hD (by omega) hj
  have hg : (M.ad (kh n) (j : Int) 0).giv = M.giv := by unfold MM.ad; split <;> rfl
  refine (hx_add hx (kh n) (wf_kh (by omega)) (j : Int) 0 (WalkArith.wf_i64 (n := 0) ⟨by omega, by omega⟩) (by omega)).mono ?_
  rintro e w' ⟨rfl, h', hk⟩
  refine ⟨by rw [hf.1], ⟨⟨c, S, h', ?_, hS⟩, hf.2, by omega, by rw [hg]; exact h2, h3⟩, hk⟩
  rw [rem_one, hD]
  simp only [Bool.false_eq_true, if_false]
  omega
theorem hs_poll (h : HS w b gm X n G M D now wx) (hG : G ≤ 100000) {j : Nat} (hj1 : 1 ≤ j) (hj2 : j < 5) : Calls Try.prog 27 #[.pointer (some ⟨b, 0, none⟩), .int .i64 (j : Int), .int .i64 1, .int .i64 now] wx fun e w' => e = .returned (.tuple #[.agg (M.plL (j : Int) 1 now).cs.toArray, .int .i64 (M.plE (j : Int) 1)]) ∧ HS w b gm X n (G + 1) (M.pl (j : Int) 1 now) D now w' ∧ KX X wx w' := by
  have hE := h.E
  obtain ⟨⟨c, S, hx, hc, hS⟩, hJ, h1, h2, h3⟩ := h
  refine (hx_poll hx (j : Int) 1 now (by omega) h2.1 (by omega) (by omega) (by omega)).mono ?_
  rintro e w' ⟨rfl, h', hk⟩
  refine ⟨rfl, ⟨⟨c, S, h', hc, hS⟩, ?_, h1, ?_, h3⟩, hk⟩
  · by_cases he : M.plE (j : Int) 1 = 0
    · exact hJ.pl hj1 hj2 he
    · rw [show M.pl (j : Int) 1 now = M from by unfold MM.pl; rw [if_neg he]]
      exact hJ
  · unfold MM.pl
    split
    · exact ⟨by show 0 ≤ M.giv + 1; omega, by show M.giv + 1 ≤ G + 1; omega⟩
    · exact ⟨h2.1, by omega⟩
theorem hs_finish (h : HS w b gm X n G M D now wx) (tok : Int) : Calls Try.prog 44 #[.pointer (some ⟨b, 0, none⟩), .int .u64 tok] wx fun e w' => e = .returned (.bool true) ∧ KX X wx w' ∧ ∃ M' D', HS w b gm X n G M' D' now w' ∧ ((M.gt tok now).2 = 0 → M' = M.dn tok ∧ rem D' n + 1 = rem D n) ∧ ((M.gt tok now).2 ≠ 0 → M' = M ∧ D' = D) := by
  have hE := h.E
  obtain ⟨⟨c, S, hx, hc, hS⟩, hJ, h1, h2, h3⟩ := h
  by_cases hg : (M.gt tok now).2 = 0
  · obtain ⟨hm, ht⟩ := gt_mem hg
    obtain ⟨i, hi, hk, hd, hJ'⟩ := hJ.done hm
    rw [ht] at hJ'
    have hr := rem_set hd n
    rw [if_pos hi] at hr
    refine (hx_finish hx tok (by omega) (by omega) (i : Int) (fun _ => ⟨by rw [hk]; rfl, WalkArith.wf_i64 (n := (i : Int)) ⟨by omega, by omega⟩, by rw [hS, hd], by rw [← ht]; exact any_tok hm⟩)).mono ?_
    rintro e w' ⟨rfl, hK, h0, _⟩
    refine ⟨rfl, hK, M.dn tok, setD D i, ⟨⟨c + 1, _, h0 hg, by omega, fun j => ?_⟩, hJ', h1, ?_, h3⟩, fun _ => ⟨rfl, hr⟩, fun hn => absurd hg hn⟩
    · show (if ((j : Nat) : Int) = (i : Int) then true else S (j : Int)) = if j = i then true else D j
      by_cases e : j = i
      · rw [if_pos e, if_pos (by omega)]
      · rw [if_neg e, if_neg (by omega)]
        exact hS j
    · have : (M.dn tok).giv = M.giv := by unfold MM.dn MM.l; dsimp only
      rw [this]
      exact h2
  · refine (hx_finish hx tok (by omega) (by omega) 0 (fun h0 => absurd h0 hg)).mono ?_
    rintro e w' ⟨rfl, hK, _, h0⟩
    exact ⟨rfl, hK, M, D, ⟨⟨c, S, h0 hg, hc, hS⟩, hJ, h1, h2, h3⟩, fun hn => absurd hn hg, fun _ => ⟨rfl, rfl⟩⟩
theorem hs_expire (h : HS w b gm X n G M D now wx) : Calls Try.prog 31 #[.pointer (some ⟨b, 0, none⟩), .int .i64 now] wx fun e w' => ∃ a1 c1, e = .returned (.slice a1 (M.E.filter fun l => decide (l.til ≤ now)).length c1) ∧ HO w b gm X n G (M.ex now) D now (M.E.filter fun l => decide (l.til ≤ now)) a1 c1 w' ∧ KX X wx w' := by
  have hE := h.E
  have hw := h.wf
  obtain ⟨⟨c, S, hx, hc, hS⟩, hJ, h1, h2, h3⟩ := h
  refine (hx_expire hx now hw (by omega)).mono ?_
  rintro e w' ⟨a1, c1, rfl, hR, h', hK⟩
  refine ⟨a1, c1, rfl, ⟨⟨c, S, h', hc, hS⟩, hJ.expire now (Int.le_refl _), h1, ?_, h3, ⟨_, hR⟩, ?_⟩, hK⟩
  · obtain ⟨q, hq⟩ : ∃ q, q = 64 := ⟨_, rfl⟩
    have : (M.ex now).giv = M.giv := by
      unfold MM.ex MM.l
      rw [← hq]
      dsimp only
      exact (exG_E now q 1 M).2
    rw [this]
    exact h2
  · have := List.length_filter_le (fun l : Ls => decide (l.til ≤ now)) M.E
    omega
theorem hs_lose (h : HS w b gm X n G M D now wx) {j : Nat} (hj1 : 1 ≤ j) (hj2 : j < 5) : Calls Try.prog 35 #[.pointer (some ⟨b, 0, none⟩), .int .i64 (j : Int), .int .i64 now] wx fun e w' => ∃ a1 c1, e = .returned (.slice a1 (M.loL (j : Int)).length c1) ∧ HO w b gm X n G (M.lo (j : Int) now) D now (M.loL (j : Int)) a1 c1 w' ∧ KX X wx w' := by
  have hE := h.E
  have hw := h.wf
  obtain ⟨⟨c, S, hx, hc, hS⟩, hJ, h1, h2, h3⟩ := h
  refine (hx_lose hx (j : Int) now hw (by omega)).mono ?_
  rintro e w' ⟨a1, c1, rfl, hR, h', hK⟩
  refine ⟨a1, c1, rfl, ⟨⟨c, S, h', hc, hS⟩, hJ.lose (by omega) hj1 hj2, h1, ?_, h3, ⟨_, hR⟩, ?_⟩, hK⟩
  · have : (M.lo (j : Int) now).giv = M.giv := by
      unfold MM.lo
      split
      · exact (frs_E now ((j : Int)).toNat (keysT (M.W ((j : Int)).toNat)) M).2
      · rfl
    rw [this]
    exact h2
  · have : (M.loL (j : Int)).length ≤ M.E.length := by
      unfold MM.loL
      split
      · exact List.length_filter_le _ _
      · simp
    omega
theorem ho_again {F : List Ls} {a1 : Option Addr} {c1 : Nat} (h : HO w b gm X n G M D now F a1 c1 wx) : Calls Try.prog 45 #[.pointer (some ⟨b, 0, none⟩), .slice a1 F.length c1] wx fun e w' => e = .returned (.tuple #[]) ∧ HS w b gm X n G (agn now F M) D now w' ∧ KX X wx w' := by
  have hw := h.wf
  obtain ⟨⟨c, S, hx, hc, hS⟩, hJ, h1, h2, h3, ⟨B0, hR⟩, hF⟩ := h
  refine (hx_again hx hJ (by omega) hw hR (fun q hq => .inr hq) hF).mono ?_
  rintro e w' ⟨rfl, h', hK⟩
  refine ⟨rfl, ⟨⟨c, S, h'.less (fun q hq => .inl hq), hc, hS⟩, HJ.agn (by omega) F M hJ, h1, by rw [(agn_E F M).2]; exact h2, h3⟩, HX.lessK hK (fun q hq => .inl hq)⟩
theorem hs_waiting (h : HS w b gm X n G M D now wx) : Calls Try.prog 42 #[.pointer (some ⟨b, 0, none⟩)] wx fun e w' => ∃ ao c, e = .returned (.slice ao M.wt.length c) ∧ Below wx.heap.size wx w' := by
  obtain ⟨c, S, hx, _⟩ := h.hx
  exact hx_waiting hx
theorem hs_leases (h : HS w b gm X n G M D now wx) : Calls Try.prog 43 #[.pointer (some ⟨b, 0, none⟩)] wx fun e w' => ∃ ao c, e = .returned (.slice ao M.E.length c) ∧ Below wx.heap.size wx w' := by
  have hE := h.E
  obtain ⟨c, S, hx, _⟩ := h.hx
  exact hx_leases hx (by omega)
end Go.Proofs.Ytkmhbbcppjckiaa.Ma
