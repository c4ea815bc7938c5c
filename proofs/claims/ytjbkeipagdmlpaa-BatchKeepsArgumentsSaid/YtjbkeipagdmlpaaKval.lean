/- The walks over keep's value once more: a valid value of a column, the source stands. -/
import Derived.Test.YtjbkeipagdmlpaaKvS
namespace Go.KV
open Go.RowKit Go.VB Go.VL
/-- A valid value of a column of type ty, of a short text. -/
def VOK (ty : Int) (nul : Bool) (n : Int) (s : ByteArray) : Prop := chk ty true nul n s = 0 ∧ (Lit.int .i64 n).wf = true ∧ s.size ≤ 3
/-- A value that meets p is returned; the source stands. -/
def RetS (p : Bool → Int → ByteArray → Prop) (w0 : World) (B g : Nat) (v : Value) (zl : List Int) : Ending → World → Prop := fun e w' =>
  ∃ nul n s, e = .returned (.agg #[.bool nul, .int .i64 n, .string s]) ∧ p nul n s ∧ Src w0 w' B g v zl
theorem RetS.mk {p : Bool → Int → ByteArray → Prop} {B g : Nat} {w0 w' : World} {v : Value} {zl : List Int} {x : Value} (nul : Bool) (n : Int) (s : ByteArray) (hx : x = .agg #[.bool nul, .int .i64 n, .string s]) (hp : p nul n s) (hb : Src w0 w' B g v zl) :
    RetS p w0 B g v zl (.returned x) w' := ⟨nul, n, s, by rw [hx], hp, hb⟩
/-- It returns v in the world w'. -/
def RetW (v : Value) (w' : World) : Ending → World → Prop := fun e w'' => e = .returned v ∧ w'' = w'
theorem vok_nul {ty : Int} (h : 1 ≤ ty ∧ ty ≤ 5) : VOK ty true 0 ⟨#[]⟩ := by
  refine ⟨?_, by decide, by decide⟩
  rw [chk_nul (decide_eq_true h)]; rfl
theorem vok_bytes (l : List UInt8) (h : l.length ≤ 3) : VOK 3 false 0 (str l) := by
  refine ⟨?_, by decide, by rw [str_size]; exact h⟩
  rw [chk_val rfl, if_neg (by omega)]
  have : okP 3 0 (str l) = true := decide_eq_true (by rw [str_size]; omega)
  rw [this]; rfl
theorem vok_num {ty n : Int} (h : 1 ≤ ty ∧ ty ≤ 5) (h3 : ty ≠ 3) (hp : okP ty n ⟨#[]⟩ = true) (hw : (Lit.int .i64 n).wf = true) : VOK ty false n ⟨#[]⟩ := by
  refine ⟨?_, hw, by decide⟩
  rw [chk_val (decide_eq_true h), if_neg (by rintro (h | h); exact h3 h.1; exact h.2 rfl), hp]; rfl
theorem and_one_i64 (n : Int) : bits .and .i64 n 1 = 0 ∨ bits .and .i64 n 1 = 1 := by
  unfold bits
  simp
  rw [show 1 % 2 ^ IntKind.i64.bits = 1 from by decide, Nat.and_one_is_mod]
  rcases Nat.mod_two_eq_zero_or_one (n % 2 ^ IntKind.i64.bits).toNat with h | h
  · left; rw [h]; decide
  · right; rw [h]; decide
theorem tmod_bd (n : Int) {m : Int} (hm : 0 < m) : -m < n.tmod m ∧ n.tmod m < m := by
  have h1 := Int.tmod_lt_of_pos n hm
  have h2 := Int.neg_tmod n m
  have h3 := Int.tmod_lt_of_pos (-n) hm
  omega
theorem set3_cells {w : World} {b : Nat} {x y z x0 y0 z0 : Value} (k0 : w.cell? ⟨b, 0, none⟩ = some x0) (k1 : w.cell? ⟨b, 1, none⟩ = some y0) (k2 : w.cell? ⟨b, 2, none⟩ = some z0) :
    (((w.setCell ⟨b, 0, none⟩ x).setCell ⟨b, 1, none⟩ y).setCell ⟨b, 2, none⟩ z).cell? ⟨b, 0, none⟩ = some x ∧
    (((w.setCell ⟨b, 0, none⟩ x).setCell ⟨b, 1, none⟩ y).setCell ⟨b, 2, none⟩ z).cell? ⟨b, 1, none⟩ = some y ∧
    (((w.setCell ⟨b, 0, none⟩ x).setCell ⟨b, 1, none⟩ y).setCell ⟨b, 2, none⟩ z).cell? ⟨b, 2, none⟩ = some z := by
  refine ⟨?_, ?_, ?_⟩
  · rw [World.cell?_setCell_other _ _ _ _ (by simp), World.cell?_setCell_other _ _ _ _ (by simp), World.cell?_setCell_same _ _ _ k0]
  · rw [World.cell?_setCell_other _ _ _ _ (by simp), World.cell?_setCell_same _ _ _ ((World.cell?_setCell_other _ _ _ _ (by simp)).trans k1)]
  · rw [World.cell?_setCell_same _ _ _ ((World.cell?_setCell_other _ _ _ _ (by simp)).trans ((World.cell?_setCell_other _ _ _ _ (by simp)).trans k2))]
end Go.KV
namespace Go.Proofs.Ytjbkeipagdmlpaa
open Go.RowKit Go.VB Go.VL Go.KV
set_option maxRecDepth 100000 in
set_option maxHeartbeats 1000000 in
theorem sfrom_any (A : Option Addr) (n c : Nat) (w : World) : Calls Try.prog 38 #[.slice A n c] w (RetW (.pointer (some ⟨w.heap.size, 0, none⟩)) (w.alloc (.cells #[.slice A n c, .int .i64 0] 79))) := by
  go_enter Try.func38, Try.ntmps38
  go_wp2
  go_ret
  exact ⟨rfl, rfl⟩
set_option maxRecDepth 100000 in
set_option maxHeartbeats 8000000 in
theorem sval_false (w0 w : World) (B g : Nat) (v : Value) (zl : List Int) (nm : ByteArray) (ty sc : Int) (hs : Src w0 w B g v zl) (hty : 1 ≤ ty ∧ ty ≤ 5) :
    Calls Try.prog 56 #[.pointer (some ⟨g, 0, none⟩), (.agg #[.string nm, .int .i64 ty, .int .i64 sc, .bool false])] w (RetS (fun nul n s => VOK ty nul n s ∧ (nul = true → false = true)) w0 B g v zl) := by
  have h5 : ty = 1 ∨ ty = 2 ∨ ty = 3 ∨ ty = 4 ∨ ty = 5 := by omega
  go_enter Try.func56, Try.ntmps56
  go_wp2_with fail
  refine (snext_any w0 w [_, _] B g v zl 7 hs (by omega) (by omega)).mono ?_
  rintro e w' ⟨r1, w1, rfl, ⟨r1a, r1b⟩, h1, hS, rfl⟩
  simp only [grow]
  rw [hS]
  clear hS hs
  go_wp2_with fail
  refine (snext_any w0 w1 [_, _] B g v zl 8 h1 (by omega) (by omega)).mono ?_
  rintro e w' ⟨r2, w2, rfl, ⟨r2a, r2b⟩, h2, hS, rfl⟩
  simp only [grow]
  rw [hS]
  clear hS h1
  by_cases e0 : r2 = 0
  · subst e0
    go_wp2_with fail
    refine (sraw_any w0 w2 [_, _] B g v zl h2).mono ?_
    rintro e w' ⟨n, w3, rfl, hn, h3, hS, rfl⟩
    simp only [grow]
    rw [hS]
    clear hS h2
    rcases h5 with rfl | rfl | rfl | rfl | rfl
    · go_wp2
      refine bodyPost_ret (v := .agg #[.bool false, .int .i64 n, .string ⟨#[]⟩]) (by simp [results, Try.results56, go_sem]) rfl ?_
      exact RetS.mk _ _ _ rfl ⟨vok_num (by omega) (by omega) rfl hn, fun h => by cases h⟩ ((h3.alloc h3.size _).alloc (by simp; have := h3.size; omega) _)
    · have hb := and_one_i64 n
      generalize hbe : bits .and .i64 n 1 = b at hb
      go_wp2
      refine bodyPost_ret (v := .agg #[.bool false, .int .i64 b, .string ⟨#[]⟩]) (by simp [results, Try.results56, go_sem]) rfl ?_
      exact RetS.mk _ _ _ rfl ⟨vok_num (by omega) (by omega) (by rcases hb with rfl | rfl <;> rfl) (by rcases hb with rfl | rfl <;> decide), fun h => by cases h⟩ ((h3.alloc h3.size _).alloc (by simp; have := h3.size; omega) _)
    · try subst hne
      go_wp2_with fail
      refine (snext_any w0 w3 [_, _] B g v zl 4 h3 (by omega) (by omega)).mono ?_
      rintro e w' ⟨k, wz, rfl, ⟨ka, kb⟩, hz, hS, rfl⟩
      simp only [grow]
      rw [hS]
      clear hS h3
      obtain ⟨k0, rfl⟩ := Int.eq_ofNat_of_zero_le ka
      have hconv := run_string1 (P := Try.prog) 90 9 5 Try.underlying90 Try.underlying5 Try.underlying9
      go_wp2_with fail
      generalize hH : wz.heap.size = H at *
      go_loopw [6, 7] (fun x y wr => ∃ (l : List UInt8) (j : Nat) (os : List Obj) (wx : World), x = .string (str l) ∧ y = .int .i64 (j : Int) ∧ l.length + j ≤ 3 ∧ Src w0 wx B g v zl ∧ wx.heap.size = H ∧
          wr = grow wx ((.cells #[.string nm, .int .i64 3, .int .i64 sc, .bool false] 66) :: (.cells #[.bool false, .int .i64 0, .string ⟨#[]⟩] 32) :: os))
        (fun _ y _ => (intOf y).toNat)
      case atStart => exact ⟨[], k0, [], wz, rfl, rfl, by simp; omega, hz, hH, rfl⟩
      case round =>
        obtain ⟨l, j, os, wx, rfl, rfl, hlj, hx, hH, rfl⟩ := hrel
        by_cases j0 : j = 0
        · subst j0
          have hlt : ∀ os' : List Obj, (grow wx os').heap.size = wx.heap.size + os'.length := fun os' => grow_size os' wx
          have hbel := Src.grow ((.cells #[.string nm, .int .i64 3, .int .i64 sc, .bool false] 66) :: (.cells #[.bool false, .int .i64 0, .string ⟨#[]⟩] 32) :: os) hx
          have hbw := hx.gb.size
          have c0 : ∀ i, (grow wx ((.cells #[.string nm, .int .i64 3, .int .i64 sc, .bool false] 66) :: (.cells #[.bool false, .int .i64 0, .string ⟨#[]⟩] 32) :: os)).cell? ⟨H + 1, i, none⟩ =
              ((wx.alloc (.cells #[.string nm, .int .i64 3, .int .i64 sc, .bool false] 66)).alloc (.cells #[.bool false, .int .i64 0, .string ⟨#[]⟩] 32)).cell? ⟨H + 1, i, none⟩ := fun i => grow_cell os _ (by simp; omega)
          have f0 : ∀ i, (grow wx ((.cells #[.string nm, .int .i64 3, .int .i64 sc, .bool false] 66) :: (.cells #[.bool false, .int .i64 0, .string ⟨#[]⟩] 32) :: os)).frozen? ⟨H + 1, i, none⟩ =
              ((wx.alloc (.cells #[.string nm, .int .i64 3, .int .i64 sc, .bool false] 66)).alloc (.cells #[.bool false, .int .i64 0, .string ⟨#[]⟩] 32)).frozen? ⟨H + 1, i, none⟩ := fun i => grow_frozen os _ (by simp; omega)
          have k0 := c0 0
          have k1 := c0 1
          have k2 := c0 2
          have g0 := f0 0
          have g1 := f0 1
          have g2 := f0 2
          subst hH
          simp at k0 k1 k2 g0 g1 g2
          have hBs := hx.size
          clear hx hlt hz c0 f0 hconv
          generalize grow wx _ = wr at *
          go_wp2
          obtain ⟨m0, m1, m2⟩ := set3_cells (x := .bool false) (y := .int .i64 0) (z := .string (str l)) k0 k1 k2
          have hB3 := ((hbel.setO (b := wx.heap.size + 1) (by omega) 0 (.bool false)).setO (b := wx.heap.size + 1) (by omega) 1 (.int .i64 0)).setO (b := wx.heap.size + 1) (by omega) 2 (.string (str l))
          generalize ((wr.setCell ⟨wx.heap.size + 1, 0, none⟩ (.bool false)).setCell ⟨wx.heap.size + 1, 1, none⟩ (.int .i64 0)).setCell ⟨wx.heap.size + 1, 2, none⟩ (.string (str l)) = w9 at *
          refine bodyPost_ret (v := .agg #[.bool false, .int .i64 0, .string (str l)]) (by simp [results, Try.results56, go_sem, m0, m1, m2]) rfl ?_
          exact RetS.mk _ _ _ rfl ⟨vok_bytes l (by omega), fun h => by cases h⟩ hB3
        · have hj1 : 1 ≤ j := by omega
          clear j0
          go_wp2_with fail
          refine (snext_any w0 wx _ B g v zl 3 hx (by omega) (by omega)).mono ?_
          rintro e w' ⟨q, wy, rfl, ⟨qa, qb⟩, hy, hS, rfl⟩
          rw [hH] at hS
          obtain ⟨q, rfl⟩ := Int.eq_ofNat_of_zero_le qa
          have hadd := run_add_str (P := Try.prog) l 3 (by omega) (by omega)
          have hcv := fun c m => hconv (grow wy ((.cells #[.string nm, .int .i64 3, .int .i64 sc, .bool false] 66) :: (.cells #[.bool false, .int .i64 0, .string ⟨#[]⟩] 32) :: os)) c m
          obtain ⟨W, hW⟩ : ∃ W, W = grow wy ((.cells #[.string nm, .int .i64 3, .int .i64 sc, .bool false] 66) :: (.cells #[.bool false, .int .i64 0, .string ⟨#[]⟩] 32) :: os) := ⟨_, rfl⟩
          rw [← hW] at hcv ⊢
          have HW := Lib.hid hW
          have HS := Lib.hid hS
          clear hW hconv hx hH hz hS
          go_wp2
          go_roundw
          case rel => exact ⟨_, j - 1, _, wy, rfl, by go_num, by simp; omega, hy, HS.out.symm, by rw [HW.out, grow_snoc]; rfl⟩
          case measure => simp [intOf] <;> omega
    · have hq : -700000 < n.tmod 700000 ∧ n.tmod 700000 < 700000 := tmod_bd n (by omega)
      have hbn := bounds_i64 hn
      generalize hqe : n.tmod 700000 = q at hq
      go_wp2
      refine bodyPost_ret (v := .agg #[.bool false, .int .i64 q, .string ⟨#[]⟩]) (by simp [results, Try.results56, go_sem]) rfl ?_
      exact RetS.mk _ _ _ rfl ⟨vok_num (by omega) (by omega) (decide_eq_true (by omega)) (WalkArith.wf_i64 (by omega)), fun h => by cases h⟩ ((h3.alloc h3.size _).alloc (by simp; have := h3.size; omega) _)
    · have hq : -1000000000000000000 < n.tmod 1000000000000000000 ∧ n.tmod 1000000000000000000 < 1000000000000000000 := tmod_bd n (by omega)
      have hbn := bounds_i64 hn
      generalize hqe : n.tmod 1000000000000000000 = q at hq
      go_wp2
      refine bodyPost_ret (v := .agg #[.bool false, .int .i64 q, .string ⟨#[]⟩]) (by simp [results, Try.results56, go_sem]) rfl ?_
      exact RetS.mk _ _ _ rfl ⟨vok_num (by omega) (by omega) (decide_eq_true (by omega)) (WalkArith.wf_i64 (by omega)), fun h => by cases h⟩ ((h3.alloc h3.size _).alloc (by simp; have := h3.size; omega) _)
  · have f0 := ieq_f e0
    by_cases e1 : r2 = 1
    · subst e1
      clear e0 f0
      go_wp2_with fail
      refine (sraw_any w0 w2 [_, _] B g v zl h2).mono ?_
      rintro e w' ⟨n0, w3, rfl, hn0, h3, hS, rfl⟩
      simp only [grow]
      rw [hS]
      clear hS h2
      have hq0 : -1000 < n0.tmod 1000 ∧ n0.tmod 1000 < 1000 := tmod_bd n0 (by omega)
      have hbn0 := bounds_i64 hn0
      generalize hqe0 : n0.tmod 1000 = n at hq0
      have hn : (Lit.int .i64 n).wf = true := WalkArith.wf_i64 (by omega)
      rcases h5 with rfl | rfl | rfl | rfl | rfl
      · go_wp2
        refine bodyPost_ret (v := .agg #[.bool false, .int .i64 n, .string ⟨#[]⟩]) (by simp [results, Try.results56, go_sem]) rfl ?_
        exact RetS.mk _ _ _ rfl ⟨vok_num (by omega) (by omega) rfl hn, fun h => by cases h⟩ ((h3.alloc h3.size _).alloc (by simp; have := h3.size; omega) _)
      · have hb := and_one_i64 n
        generalize hbe : bits .and .i64 n 1 = b at hb
        go_wp2
        refine bodyPost_ret (v := .agg #[.bool false, .int .i64 b, .string ⟨#[]⟩]) (by simp [results, Try.results56, go_sem]) rfl ?_
        exact RetS.mk _ _ _ rfl ⟨vok_num (by omega) (by omega) (by rcases hb with rfl | rfl <;> rfl) (by rcases hb with rfl | rfl <;> decide), fun h => by cases h⟩ ((h3.alloc h3.size _).alloc (by simp; have := h3.size; omega) _)
      · try subst hne
        go_wp2_with fail
        refine (snext_any w0 w3 [_, _] B g v zl 4 h3 (by omega) (by omega)).mono ?_
        rintro e w' ⟨k, wz, rfl, ⟨ka, kb⟩, hz, hS, rfl⟩
        simp only [grow]
        rw [hS]
        clear hS h3
        obtain ⟨k0, rfl⟩ := Int.eq_ofNat_of_zero_le ka
        have hconv := run_string1 (P := Try.prog) 90 9 5 Try.underlying90 Try.underlying5 Try.underlying9
        go_wp2_with fail
        generalize hH : wz.heap.size = H at *
        go_loopw [6, 7] (fun x y wr => ∃ (l : List UInt8) (j : Nat) (os : List Obj) (wx : World), x = .string (str l) ∧ y = .int .i64 (j : Int) ∧ l.length + j ≤ 3 ∧ Src w0 wx B g v zl ∧ wx.heap.size = H ∧
            wr = grow wx ((.cells #[.string nm, .int .i64 3, .int .i64 sc, .bool false] 66) :: (.cells #[.bool false, .int .i64 0, .string ⟨#[]⟩] 32) :: os))
          (fun _ y _ => (intOf y).toNat)
        case atStart => exact ⟨[], k0, [], wz, rfl, rfl, by simp; omega, hz, hH, rfl⟩
        case round =>
          obtain ⟨l, j, os, wx, rfl, rfl, hlj, hx, hH, rfl⟩ := hrel
          by_cases j0 : j = 0
          · subst j0
            have hlt : ∀ os' : List Obj, (grow wx os').heap.size = wx.heap.size + os'.length := fun os' => grow_size os' wx
            have hbel := Src.grow ((.cells #[.string nm, .int .i64 3, .int .i64 sc, .bool false] 66) :: (.cells #[.bool false, .int .i64 0, .string ⟨#[]⟩] 32) :: os) hx
            have hbw := hx.gb.size
            have c0 : ∀ i, (grow wx ((.cells #[.string nm, .int .i64 3, .int .i64 sc, .bool false] 66) :: (.cells #[.bool false, .int .i64 0, .string ⟨#[]⟩] 32) :: os)).cell? ⟨H + 1, i, none⟩ =
                ((wx.alloc (.cells #[.string nm, .int .i64 3, .int .i64 sc, .bool false] 66)).alloc (.cells #[.bool false, .int .i64 0, .string ⟨#[]⟩] 32)).cell? ⟨H + 1, i, none⟩ := fun i => grow_cell os _ (by simp; omega)
            have f0 : ∀ i, (grow wx ((.cells #[.string nm, .int .i64 3, .int .i64 sc, .bool false] 66) :: (.cells #[.bool false, .int .i64 0, .string ⟨#[]⟩] 32) :: os)).frozen? ⟨H + 1, i, none⟩ =
                ((wx.alloc (.cells #[.string nm, .int .i64 3, .int .i64 sc, .bool false] 66)).alloc (.cells #[.bool false, .int .i64 0, .string ⟨#[]⟩] 32)).frozen? ⟨H + 1, i, none⟩ := fun i => grow_frozen os _ (by simp; omega)
            have k0 := c0 0
            have k1 := c0 1
            have k2 := c0 2
            have g0 := f0 0
            have g1 := f0 1
            have g2 := f0 2
            subst hH
            simp at k0 k1 k2 g0 g1 g2
            have hBs := hx.size
            clear hx hlt hz c0 f0 hconv
            generalize grow wx _ = wr at *
            go_wp2
            obtain ⟨m0, m1, m2⟩ := set3_cells (x := .bool false) (y := .int .i64 0) (z := .string (str l)) k0 k1 k2
            have hB3 := ((hbel.setO (b := wx.heap.size + 1) (by omega) 0 (.bool false)).setO (b := wx.heap.size + 1) (by omega) 1 (.int .i64 0)).setO (b := wx.heap.size + 1) (by omega) 2 (.string (str l))
            generalize ((wr.setCell ⟨wx.heap.size + 1, 0, none⟩ (.bool false)).setCell ⟨wx.heap.size + 1, 1, none⟩ (.int .i64 0)).setCell ⟨wx.heap.size + 1, 2, none⟩ (.string (str l)) = w9 at *
            refine bodyPost_ret (v := .agg #[.bool false, .int .i64 0, .string (str l)]) (by simp [results, Try.results56, go_sem, m0, m1, m2]) rfl ?_
            exact RetS.mk _ _ _ rfl ⟨vok_bytes l (by omega), fun h => by cases h⟩ hB3
          · have hj1 : 1 ≤ j := by omega
            clear j0
            go_wp2_with fail
            refine (snext_any w0 wx _ B g v zl 3 hx (by omega) (by omega)).mono ?_
            rintro e w' ⟨q, wy, rfl, ⟨qa, qb⟩, hy, hS, rfl⟩
            rw [hH] at hS
            obtain ⟨q, rfl⟩ := Int.eq_ofNat_of_zero_le qa
            have hadd := run_add_str (P := Try.prog) l 3 (by omega) (by omega)
            have hcv := fun c m => hconv (grow wy ((.cells #[.string nm, .int .i64 3, .int .i64 sc, .bool false] 66) :: (.cells #[.bool false, .int .i64 0, .string ⟨#[]⟩] 32) :: os)) c m
            obtain ⟨W, hW⟩ : ∃ W, W = grow wy ((.cells #[.string nm, .int .i64 3, .int .i64 sc, .bool false] 66) :: (.cells #[.bool false, .int .i64 0, .string ⟨#[]⟩] 32) :: os) := ⟨_, rfl⟩
            rw [← hW] at hcv ⊢
            have HW := Lib.hid hW
            have HS := Lib.hid hS
            clear hW hconv hx hH hz hS
            go_wp2
            go_roundw
            case rel => exact ⟨_, j - 1, _, wy, rfl, by go_num, by simp; omega, hy, HS.out.symm, by rw [HW.out, grow_snoc]; rfl⟩
            case measure => simp [intOf] <;> omega
      · have hq : -700000 < n.tmod 700000 ∧ n.tmod 700000 < 700000 := tmod_bd n (by omega)
        have hbn := bounds_i64 hn
        generalize hqe : n.tmod 700000 = q at hq
        go_wp2
        refine bodyPost_ret (v := .agg #[.bool false, .int .i64 q, .string ⟨#[]⟩]) (by simp [results, Try.results56, go_sem]) rfl ?_
        exact RetS.mk _ _ _ rfl ⟨vok_num (by omega) (by omega) (decide_eq_true (by omega)) (WalkArith.wf_i64 (by omega)), fun h => by cases h⟩ ((h3.alloc h3.size _).alloc (by simp; have := h3.size; omega) _)
      · have hq : -1000000000000000000 < n.tmod 1000000000000000000 ∧ n.tmod 1000000000000000000 < 1000000000000000000 := tmod_bd n (by omega)
        have hbn := bounds_i64 hn
        generalize hqe : n.tmod 1000000000000000000 = q at hq
        go_wp2
        refine bodyPost_ret (v := .agg #[.bool false, .int .i64 q, .string ⟨#[]⟩]) (by simp [results, Try.results56, go_sem]) rfl ?_
        exact RetS.mk _ _ _ rfl ⟨vok_num (by omega) (by omega) (decide_eq_true (by omega)) (WalkArith.wf_i64 (by omega)), fun h => by cases h⟩ ((h3.alloc h3.size _).alloc (by simp; have := h3.size; omega) _)
    · have f1 := ieq_f e1
      have hn : (Lit.int .i64 (r1 - 2)).wf = true := WalkArith.wf_i64 (by omega)
      clear e0 e1
      have hr : -2 ≤ r1 - 2 ∧ r1 - 2 ≤ 4 := by omega
      have hwr : wrap64 (r1 - 2) = r1 - 2 := by unfold wrap64; omega
      obtain ⟨n, hne⟩ : ∃ n, r1 - 2 = n := ⟨_, rfl⟩
      rw [hne] at hn hr hwr
      rcases h5 with rfl | rfl | rfl | rfl | rfl
      · go_wp2
        refine bodyPost_ret (v := .agg #[.bool false, .int .i64 n, .string ⟨#[]⟩]) (by simp [results, Try.results56, go_sem]) rfl ?_
        exact RetS.mk _ _ _ rfl ⟨vok_num (by omega) (by omega) rfl hn, fun h => by cases h⟩ ((h2.alloc h2.size _).alloc (by simp; have := h2.size; omega) _)
      · have hb := and_one_i64 n
        generalize hbe : bits .and .i64 n 1 = b at hb
        go_wp2
        refine bodyPost_ret (v := .agg #[.bool false, .int .i64 b, .string ⟨#[]⟩]) (by simp [results, Try.results56, go_sem]) rfl ?_
        exact RetS.mk _ _ _ rfl ⟨vok_num (by omega) (by omega) (by rcases hb with rfl | rfl <;> rfl) (by rcases hb with rfl | rfl <;> decide), fun h => by cases h⟩ ((h2.alloc h2.size _).alloc (by simp; have := h2.size; omega) _)
      · try subst hne
        go_wp2_with fail
        refine (snext_any w0 w2 [_, _] B g v zl 4 h2 (by omega) (by omega)).mono ?_
        rintro e w' ⟨k, wz, rfl, ⟨ka, kb⟩, hz, hS, rfl⟩
        simp only [grow]
        rw [hS]
        clear hS h2
        obtain ⟨k0, rfl⟩ := Int.eq_ofNat_of_zero_le ka
        have hconv := run_string1 (P := Try.prog) 90 9 5 Try.underlying90 Try.underlying5 Try.underlying9
        go_wp2_with fail
        generalize hH : wz.heap.size = H at *
        go_loopw [6, 7] (fun x y wr => ∃ (l : List UInt8) (j : Nat) (os : List Obj) (wx : World), x = .string (str l) ∧ y = .int .i64 (j : Int) ∧ l.length + j ≤ 3 ∧ Src w0 wx B g v zl ∧ wx.heap.size = H ∧
            wr = grow wx ((.cells #[.string nm, .int .i64 3, .int .i64 sc, .bool false] 66) :: (.cells #[.bool false, .int .i64 0, .string ⟨#[]⟩] 32) :: os))
          (fun _ y _ => (intOf y).toNat)
        case atStart => exact ⟨[], k0, [], wz, rfl, rfl, by simp; omega, hz, hH, rfl⟩
        case round =>
          obtain ⟨l, j, os, wx, rfl, rfl, hlj, hx, hH, rfl⟩ := hrel
          by_cases j0 : j = 0
          · subst j0
            have hlt : ∀ os' : List Obj, (grow wx os').heap.size = wx.heap.size + os'.length := fun os' => grow_size os' wx
            have hbel := Src.grow ((.cells #[.string nm, .int .i64 3, .int .i64 sc, .bool false] 66) :: (.cells #[.bool false, .int .i64 0, .string ⟨#[]⟩] 32) :: os) hx
            have hbw := hx.gb.size
            have c0 : ∀ i, (grow wx ((.cells #[.string nm, .int .i64 3, .int .i64 sc, .bool false] 66) :: (.cells #[.bool false, .int .i64 0, .string ⟨#[]⟩] 32) :: os)).cell? ⟨H + 1, i, none⟩ =
                ((wx.alloc (.cells #[.string nm, .int .i64 3, .int .i64 sc, .bool false] 66)).alloc (.cells #[.bool false, .int .i64 0, .string ⟨#[]⟩] 32)).cell? ⟨H + 1, i, none⟩ := fun i => grow_cell os _ (by simp; omega)
            have f0 : ∀ i, (grow wx ((.cells #[.string nm, .int .i64 3, .int .i64 sc, .bool false] 66) :: (.cells #[.bool false, .int .i64 0, .string ⟨#[]⟩] 32) :: os)).frozen? ⟨H + 1, i, none⟩ =
                ((wx.alloc (.cells #[.string nm, .int .i64 3, .int .i64 sc, .bool false] 66)).alloc (.cells #[.bool false, .int .i64 0, .string ⟨#[]⟩] 32)).frozen? ⟨H + 1, i, none⟩ := fun i => grow_frozen os _ (by simp; omega)
            have k0 := c0 0
            have k1 := c0 1
            have k2 := c0 2
            have g0 := f0 0
            have g1 := f0 1
            have g2 := f0 2
            subst hH
            simp at k0 k1 k2 g0 g1 g2
            have hBs := hx.size
            clear hx hlt hz c0 f0 hconv
            generalize grow wx _ = wr at *
            go_wp2
            obtain ⟨m0, m1, m2⟩ := set3_cells (x := .bool false) (y := .int .i64 0) (z := .string (str l)) k0 k1 k2
            have hB3 := ((hbel.setO (b := wx.heap.size + 1) (by omega) 0 (.bool false)).setO (b := wx.heap.size + 1) (by omega) 1 (.int .i64 0)).setO (b := wx.heap.size + 1) (by omega) 2 (.string (str l))
            generalize ((wr.setCell ⟨wx.heap.size + 1, 0, none⟩ (.bool false)).setCell ⟨wx.heap.size + 1, 1, none⟩ (.int .i64 0)).setCell ⟨wx.heap.size + 1, 2, none⟩ (.string (str l)) = w9 at *
            refine bodyPost_ret (v := .agg #[.bool false, .int .i64 0, .string (str l)]) (by simp [results, Try.results56, go_sem, m0, m1, m2]) rfl ?_
            exact RetS.mk _ _ _ rfl ⟨vok_bytes l (by omega), fun h => by cases h⟩ hB3
          · have hj1 : 1 ≤ j := by omega
            clear j0
            go_wp2_with fail
            refine (snext_any w0 wx _ B g v zl 3 hx (by omega) (by omega)).mono ?_
            rintro e w' ⟨q, wy, rfl, ⟨qa, qb⟩, hy, hS, rfl⟩
            rw [hH] at hS
            obtain ⟨q, rfl⟩ := Int.eq_ofNat_of_zero_le qa
            have hadd := run_add_str (P := Try.prog) l 3 (by omega) (by omega)
            have hcv := fun c m => hconv (grow wy ((.cells #[.string nm, .int .i64 3, .int .i64 sc, .bool false] 66) :: (.cells #[.bool false, .int .i64 0, .string ⟨#[]⟩] 32) :: os)) c m
            obtain ⟨W, hW⟩ : ∃ W, W = grow wy ((.cells #[.string nm, .int .i64 3, .int .i64 sc, .bool false] 66) :: (.cells #[.bool false, .int .i64 0, .string ⟨#[]⟩] 32) :: os) := ⟨_, rfl⟩
            rw [← hW] at hcv ⊢
            have HW := Lib.hid hW
            have HS := Lib.hid hS
            clear hW hconv hx hH hz hS
            go_wp2
            go_roundw
            case rel => exact ⟨_, j - 1, _, wy, rfl, by go_num, by simp; omega, hy, HS.out.symm, by rw [HW.out, grow_snoc]; rfl⟩
            case measure => simp [intOf] <;> omega
      · have hq : -700000 < n.tmod 700000 ∧ n.tmod 700000 < 700000 := tmod_bd n (by omega)
        have hbn := bounds_i64 hn
        generalize hqe : n.tmod 700000 = q at hq
        go_wp2
        refine bodyPost_ret (v := .agg #[.bool false, .int .i64 q, .string ⟨#[]⟩]) (by simp [results, Try.results56, go_sem]) rfl ?_
        exact RetS.mk _ _ _ rfl ⟨vok_num (by omega) (by omega) (decide_eq_true (by omega)) (WalkArith.wf_i64 (by omega)), fun h => by cases h⟩ ((h2.alloc h2.size _).alloc (by simp; have := h2.size; omega) _)
      · have hq : -1000000000000000000 < n.tmod 1000000000000000000 ∧ n.tmod 1000000000000000000 < 1000000000000000000 := tmod_bd n (by omega)
        have hbn := bounds_i64 hn
        generalize hqe : n.tmod 1000000000000000000 = q at hq
        go_wp2
        refine bodyPost_ret (v := .agg #[.bool false, .int .i64 q, .string ⟨#[]⟩]) (by simp [results, Try.results56, go_sem]) rfl ?_
        exact RetS.mk _ _ _ rfl ⟨vok_num (by omega) (by omega) (decide_eq_true (by omega)) (WalkArith.wf_i64 (by omega)), fun h => by cases h⟩ ((h2.alloc h2.size _).alloc (by simp; have := h2.size; omega) _)
set_option maxRecDepth 100000 in
set_option maxHeartbeats 8000000 in
theorem sval_true (w0 w : World) (B g : Nat) (v : Value) (zl : List Int) (nm : ByteArray) (ty sc : Int) (hs : Src w0 w B g v zl) (hty : 1 ≤ ty ∧ ty ≤ 5) :
    Calls Try.prog 56 #[.pointer (some ⟨g, 0, none⟩), (.agg #[.string nm, .int .i64 ty, .int .i64 sc, .bool true])] w (RetS (fun nul n s => VOK ty nul n s ∧ (nul = true → true = true)) w0 B g v zl) := by
  have h5 : ty = 1 ∨ ty = 2 ∨ ty = 3 ∨ ty = 4 ∨ ty = 5 := by omega
  go_enter Try.func56, Try.ntmps56
  go_wp2_with fail
  refine (snext_any w0 w [_, _] B g v zl 4 hs (by omega) (by omega)).mono ?_
  rintro e w' ⟨r0, wn, rfl, ⟨r0a, r0b⟩, hsn, hS, rfl⟩
  simp only [grow]
  rw [hS]
  clear hS hs
  by_cases z0 : r0 = 0
  · subst z0
    go_wp2
    refine bodyPost_ret (v := .agg #[.bool true, .int .i64 0, .string ⟨#[]⟩]) (by simp [results, Try.results56, go_sem]) rfl ?_
    exact RetS.mk _ _ _ rfl ⟨vok_nul hty, fun _ => by trivial⟩ ((hsn.alloc hsn.size _).alloc (by simp; have := hsn.size; omega) _)
  · have g0 := ieq_f z0
    clear z0
    go_wp2_with fail
    refine (snext_any w0 wn [_, _] B g v zl 7 hsn (by omega) (by omega)).mono ?_
    rintro e w' ⟨r1, w1, rfl, ⟨r1a, r1b⟩, h1, hS, rfl⟩
    simp only [grow]
    rw [hS]
    clear hS hsn
    go_wp2_with fail
    refine (snext_any w0 w1 [_, _] B g v zl 8 h1 (by omega) (by omega)).mono ?_
    rintro e w' ⟨r2, w2, rfl, ⟨r2a, r2b⟩, h2, hS, rfl⟩
    simp only [grow]
    rw [hS]
    clear hS h1
    by_cases e0 : r2 = 0
    · subst e0
      go_wp2_with fail
      refine (sraw_any w0 w2 [_, _] B g v zl h2).mono ?_
      rintro e w' ⟨n, w3, rfl, hn, h3, hS, rfl⟩
      simp only [grow]
      rw [hS]
      clear hS h2
      rcases h5 with rfl | rfl | rfl | rfl | rfl
      · go_wp2
        refine bodyPost_ret (v := .agg #[.bool false, .int .i64 n, .string ⟨#[]⟩]) (by simp [results, Try.results56, go_sem]) rfl ?_
        exact RetS.mk _ _ _ rfl ⟨vok_num (by omega) (by omega) rfl hn, fun h => by cases h⟩ ((h3.alloc h3.size _).alloc (by simp; have := h3.size; omega) _)
      · have hb := and_one_i64 n
        generalize hbe : bits .and .i64 n 1 = b at hb
        go_wp2
        refine bodyPost_ret (v := .agg #[.bool false, .int .i64 b, .string ⟨#[]⟩]) (by simp [results, Try.results56, go_sem]) rfl ?_
        exact RetS.mk _ _ _ rfl ⟨vok_num (by omega) (by omega) (by rcases hb with rfl | rfl <;> rfl) (by rcases hb with rfl | rfl <;> decide), fun h => by cases h⟩ ((h3.alloc h3.size _).alloc (by simp; have := h3.size; omega) _)
      · try subst hne
        go_wp2_with fail
        refine (snext_any w0 w3 [_, _] B g v zl 4 h3 (by omega) (by omega)).mono ?_
        rintro e w' ⟨k, wz, rfl, ⟨ka, kb⟩, hz, hS, rfl⟩
        simp only [grow]
        rw [hS]
        clear hS h3
        obtain ⟨k0, rfl⟩ := Int.eq_ofNat_of_zero_le ka
        have hconv := run_string1 (P := Try.prog) 90 9 5 Try.underlying90 Try.underlying5 Try.underlying9
        go_wp2_with fail
        generalize hH : wz.heap.size = H at *
        go_loopw [6, 7] (fun x y wr => ∃ (l : List UInt8) (j : Nat) (os : List Obj) (wx : World), x = .string (str l) ∧ y = .int .i64 (j : Int) ∧ l.length + j ≤ 3 ∧ Src w0 wx B g v zl ∧ wx.heap.size = H ∧
            wr = grow wx ((.cells #[.string nm, .int .i64 3, .int .i64 sc, .bool true] 66) :: (.cells #[.bool false, .int .i64 0, .string ⟨#[]⟩] 32) :: os))
          (fun _ y _ => (intOf y).toNat)
        case atStart => exact ⟨[], k0, [], wz, rfl, rfl, by simp; omega, hz, hH, rfl⟩
        case round =>
          obtain ⟨l, j, os, wx, rfl, rfl, hlj, hx, hH, rfl⟩ := hrel
          by_cases j0 : j = 0
          · subst j0
            have hlt : ∀ os' : List Obj, (grow wx os').heap.size = wx.heap.size + os'.length := fun os' => grow_size os' wx
            have hbel := Src.grow ((.cells #[.string nm, .int .i64 3, .int .i64 sc, .bool true] 66) :: (.cells #[.bool false, .int .i64 0, .string ⟨#[]⟩] 32) :: os) hx
            have hbw := hx.gb.size
            have c0 : ∀ i, (grow wx ((.cells #[.string nm, .int .i64 3, .int .i64 sc, .bool true] 66) :: (.cells #[.bool false, .int .i64 0, .string ⟨#[]⟩] 32) :: os)).cell? ⟨H + 1, i, none⟩ =
                ((wx.alloc (.cells #[.string nm, .int .i64 3, .int .i64 sc, .bool true] 66)).alloc (.cells #[.bool false, .int .i64 0, .string ⟨#[]⟩] 32)).cell? ⟨H + 1, i, none⟩ := fun i => grow_cell os _ (by simp; omega)
            have f0 : ∀ i, (grow wx ((.cells #[.string nm, .int .i64 3, .int .i64 sc, .bool true] 66) :: (.cells #[.bool false, .int .i64 0, .string ⟨#[]⟩] 32) :: os)).frozen? ⟨H + 1, i, none⟩ =
                ((wx.alloc (.cells #[.string nm, .int .i64 3, .int .i64 sc, .bool true] 66)).alloc (.cells #[.bool false, .int .i64 0, .string ⟨#[]⟩] 32)).frozen? ⟨H + 1, i, none⟩ := fun i => grow_frozen os _ (by simp; omega)
            have k0 := c0 0
            have k1 := c0 1
            have k2 := c0 2
            have g0 := f0 0
            have g1 := f0 1
            have g2 := f0 2
            subst hH
            simp at k0 k1 k2 g0 g1 g2
            have hBs := hx.size
            clear hx hlt hz c0 f0 hconv
            generalize grow wx _ = wr at *
            go_wp2
            obtain ⟨m0, m1, m2⟩ := set3_cells (x := .bool false) (y := .int .i64 0) (z := .string (str l)) k0 k1 k2
            have hB3 := ((hbel.setO (b := wx.heap.size + 1) (by omega) 0 (.bool false)).setO (b := wx.heap.size + 1) (by omega) 1 (.int .i64 0)).setO (b := wx.heap.size + 1) (by omega) 2 (.string (str l))
            generalize ((wr.setCell ⟨wx.heap.size + 1, 0, none⟩ (.bool false)).setCell ⟨wx.heap.size + 1, 1, none⟩ (.int .i64 0)).setCell ⟨wx.heap.size + 1, 2, none⟩ (.string (str l)) = w9 at *
            refine bodyPost_ret (v := .agg #[.bool false, .int .i64 0, .string (str l)]) (by simp [results, Try.results56, go_sem, m0, m1, m2]) rfl ?_
            exact RetS.mk _ _ _ rfl ⟨vok_bytes l (by omega), fun h => by cases h⟩ hB3
          · have hj1 : 1 ≤ j := by omega
            clear j0
            go_wp2_with fail
            refine (snext_any w0 wx _ B g v zl 3 hx (by omega) (by omega)).mono ?_
            rintro e w' ⟨q, wy, rfl, ⟨qa, qb⟩, hy, hS, rfl⟩
            rw [hH] at hS
            obtain ⟨q, rfl⟩ := Int.eq_ofNat_of_zero_le qa
            have hadd := run_add_str (P := Try.prog) l 3 (by omega) (by omega)
            have hcv := fun c m => hconv (grow wy ((.cells #[.string nm, .int .i64 3, .int .i64 sc, .bool true] 66) :: (.cells #[.bool false, .int .i64 0, .string ⟨#[]⟩] 32) :: os)) c m
            obtain ⟨W, hW⟩ : ∃ W, W = grow wy ((.cells #[.string nm, .int .i64 3, .int .i64 sc, .bool true] 66) :: (.cells #[.bool false, .int .i64 0, .string ⟨#[]⟩] 32) :: os) := ⟨_, rfl⟩
            rw [← hW] at hcv ⊢
            have HW := Lib.hid hW
            have HS := Lib.hid hS
            clear hW hconv hx hH hz hS
            go_wp2
            go_roundw
            case rel => exact ⟨_, j - 1, _, wy, rfl, by go_num, by simp; omega, hy, HS.out.symm, by rw [HW.out, grow_snoc]; rfl⟩
            case measure => simp [intOf] <;> omega
      · have hq : -700000 < n.tmod 700000 ∧ n.tmod 700000 < 700000 := tmod_bd n (by omega)
        have hbn := bounds_i64 hn
        generalize hqe : n.tmod 700000 = q at hq
        go_wp2
        refine bodyPost_ret (v := .agg #[.bool false, .int .i64 q, .string ⟨#[]⟩]) (by simp [results, Try.results56, go_sem]) rfl ?_
        exact RetS.mk _ _ _ rfl ⟨vok_num (by omega) (by omega) (decide_eq_true (by omega)) (WalkArith.wf_i64 (by omega)), fun h => by cases h⟩ ((h3.alloc h3.size _).alloc (by simp; have := h3.size; omega) _)
      · have hq : -1000000000000000000 < n.tmod 1000000000000000000 ∧ n.tmod 1000000000000000000 < 1000000000000000000 := tmod_bd n (by omega)
        have hbn := bounds_i64 hn
        generalize hqe : n.tmod 1000000000000000000 = q at hq
        go_wp2
        refine bodyPost_ret (v := .agg #[.bool false, .int .i64 q, .string ⟨#[]⟩]) (by simp [results, Try.results56, go_sem]) rfl ?_
        exact RetS.mk _ _ _ rfl ⟨vok_num (by omega) (by omega) (decide_eq_true (by omega)) (WalkArith.wf_i64 (by omega)), fun h => by cases h⟩ ((h3.alloc h3.size _).alloc (by simp; have := h3.size; omega) _)
    · have f0 := ieq_f e0
      by_cases e1 : r2 = 1
      · subst e1
        clear e0 f0
        go_wp2_with fail
        refine (sraw_any w0 w2 [_, _] B g v zl h2).mono ?_
        rintro e w' ⟨n0, w3, rfl, hn0, h3, hS, rfl⟩
        simp only [grow]
        rw [hS]
        clear hS h2
        have hq0 : -1000 < n0.tmod 1000 ∧ n0.tmod 1000 < 1000 := tmod_bd n0 (by omega)
        have hbn0 := bounds_i64 hn0
        generalize hqe0 : n0.tmod 1000 = n at hq0
        have hn : (Lit.int .i64 n).wf = true := WalkArith.wf_i64 (by omega)
        rcases h5 with rfl | rfl | rfl | rfl | rfl
        · go_wp2
          refine bodyPost_ret (v := .agg #[.bool false, .int .i64 n, .string ⟨#[]⟩]) (by simp [results, Try.results56, go_sem]) rfl ?_
          exact RetS.mk _ _ _ rfl ⟨vok_num (by omega) (by omega) rfl hn, fun h => by cases h⟩ ((h3.alloc h3.size _).alloc (by simp; have := h3.size; omega) _)
        · have hb := and_one_i64 n
          generalize hbe : bits .and .i64 n 1 = b at hb
          go_wp2
          refine bodyPost_ret (v := .agg #[.bool false, .int .i64 b, .string ⟨#[]⟩]) (by simp [results, Try.results56, go_sem]) rfl ?_
          exact RetS.mk _ _ _ rfl ⟨vok_num (by omega) (by omega) (by rcases hb with rfl | rfl <;> rfl) (by rcases hb with rfl | rfl <;> decide), fun h => by cases h⟩ ((h3.alloc h3.size _).alloc (by simp; have := h3.size; omega) _)
        · try subst hne
          go_wp2_with fail
          refine (snext_any w0 w3 [_, _] B g v zl 4 h3 (by omega) (by omega)).mono ?_
          rintro e w' ⟨k, wz, rfl, ⟨ka, kb⟩, hz, hS, rfl⟩
          simp only [grow]
          rw [hS]
          clear hS h3
          obtain ⟨k0, rfl⟩ := Int.eq_ofNat_of_zero_le ka
          have hconv := run_string1 (P := Try.prog) 90 9 5 Try.underlying90 Try.underlying5 Try.underlying9
          go_wp2_with fail
          generalize hH : wz.heap.size = H at *
          go_loopw [6, 7] (fun x y wr => ∃ (l : List UInt8) (j : Nat) (os : List Obj) (wx : World), x = .string (str l) ∧ y = .int .i64 (j : Int) ∧ l.length + j ≤ 3 ∧ Src w0 wx B g v zl ∧ wx.heap.size = H ∧
              wr = grow wx ((.cells #[.string nm, .int .i64 3, .int .i64 sc, .bool true] 66) :: (.cells #[.bool false, .int .i64 0, .string ⟨#[]⟩] 32) :: os))
            (fun _ y _ => (intOf y).toNat)
          case atStart => exact ⟨[], k0, [], wz, rfl, rfl, by simp; omega, hz, hH, rfl⟩
          case round =>
            obtain ⟨l, j, os, wx, rfl, rfl, hlj, hx, hH, rfl⟩ := hrel
            by_cases j0 : j = 0
            · subst j0
              have hlt : ∀ os' : List Obj, (grow wx os').heap.size = wx.heap.size + os'.length := fun os' => grow_size os' wx
              have hbel := Src.grow ((.cells #[.string nm, .int .i64 3, .int .i64 sc, .bool true] 66) :: (.cells #[.bool false, .int .i64 0, .string ⟨#[]⟩] 32) :: os) hx
              have hbw := hx.gb.size
              have c0 : ∀ i, (grow wx ((.cells #[.string nm, .int .i64 3, .int .i64 sc, .bool true] 66) :: (.cells #[.bool false, .int .i64 0, .string ⟨#[]⟩] 32) :: os)).cell? ⟨H + 1, i, none⟩ =
                  ((wx.alloc (.cells #[.string nm, .int .i64 3, .int .i64 sc, .bool true] 66)).alloc (.cells #[.bool false, .int .i64 0, .string ⟨#[]⟩] 32)).cell? ⟨H + 1, i, none⟩ := fun i => grow_cell os _ (by simp; omega)
              have f0 : ∀ i, (grow wx ((.cells #[.string nm, .int .i64 3, .int .i64 sc, .bool true] 66) :: (.cells #[.bool false, .int .i64 0, .string ⟨#[]⟩] 32) :: os)).frozen? ⟨H + 1, i, none⟩ =
                  ((wx.alloc (.cells #[.string nm, .int .i64 3, .int .i64 sc, .bool true] 66)).alloc (.cells #[.bool false, .int .i64 0, .string ⟨#[]⟩] 32)).frozen? ⟨H + 1, i, none⟩ := fun i => grow_frozen os _ (by simp; omega)
              have k0 := c0 0
              have k1 := c0 1
              have k2 := c0 2
              have g0 := f0 0
              have g1 := f0 1
              have g2 := f0 2
              subst hH
              simp at k0 k1 k2 g0 g1 g2
              have hBs := hx.size
              clear hx hlt hz c0 f0 hconv
              generalize grow wx _ = wr at *
              go_wp2
              obtain ⟨m0, m1, m2⟩ := set3_cells (x := .bool false) (y := .int .i64 0) (z := .string (str l)) k0 k1 k2
              have hB3 := ((hbel.setO (b := wx.heap.size + 1) (by omega) 0 (.bool false)).setO (b := wx.heap.size + 1) (by omega) 1 (.int .i64 0)).setO (b := wx.heap.size + 1) (by omega) 2 (.string (str l))
              generalize ((wr.setCell ⟨wx.heap.size + 1, 0, none⟩ (.bool false)).setCell ⟨wx.heap.size + 1, 1, none⟩ (.int .i64 0)).setCell ⟨wx.heap.size + 1, 2, none⟩ (.string (str l)) = w9 at *
              refine bodyPost_ret (v := .agg #[.bool false, .int .i64 0, .string (str l)]) (by simp [results, Try.results56, go_sem, m0, m1, m2]) rfl ?_
              exact RetS.mk _ _ _ rfl ⟨vok_bytes l (by omega), fun h => by cases h⟩ hB3
            · have hj1 : 1 ≤ j := by omega
              clear j0
              go_wp2_with fail
              refine (snext_any w0 wx _ B g v zl 3 hx (by omega) (by omega)).mono ?_
              rintro e w' ⟨q, wy, rfl, ⟨qa, qb⟩, hy, hS, rfl⟩
              rw [hH] at hS
              obtain ⟨q, rfl⟩ := Int.eq_ofNat_of_zero_le qa
              have hadd := run_add_str (P := Try.prog) l 3 (by omega) (by omega)
              have hcv := fun c m => hconv (grow wy ((.cells #[.string nm, .int .i64 3, .int .i64 sc, .bool true] 66) :: (.cells #[.bool false, .int .i64 0, .string ⟨#[]⟩] 32) :: os)) c m
              obtain ⟨W, hW⟩ : ∃ W, W = grow wy ((.cells #[.string nm, .int .i64 3, .int .i64 sc, .bool true] 66) :: (.cells #[.bool false, .int .i64 0, .string ⟨#[]⟩] 32) :: os) := ⟨_, rfl⟩
              rw [← hW] at hcv ⊢
              have HW := Lib.hid hW
              have HS := Lib.hid hS
              clear hW hconv hx hH hz hS
              go_wp2
              go_roundw
              case rel => exact ⟨_, j - 1, _, wy, rfl, by go_num, by simp; omega, hy, HS.out.symm, by rw [HW.out, grow_snoc]; rfl⟩
              case measure => simp [intOf] <;> omega
        · have hq : -700000 < n.tmod 700000 ∧ n.tmod 700000 < 700000 := tmod_bd n (by omega)
          have hbn := bounds_i64 hn
          generalize hqe : n.tmod 700000 = q at hq
          go_wp2
          refine bodyPost_ret (v := .agg #[.bool false, .int .i64 q, .string ⟨#[]⟩]) (by simp [results, Try.results56, go_sem]) rfl ?_
          exact RetS.mk _ _ _ rfl ⟨vok_num (by omega) (by omega) (decide_eq_true (by omega)) (WalkArith.wf_i64 (by omega)), fun h => by cases h⟩ ((h3.alloc h3.size _).alloc (by simp; have := h3.size; omega) _)
        · have hq : -1000000000000000000 < n.tmod 1000000000000000000 ∧ n.tmod 1000000000000000000 < 1000000000000000000 := tmod_bd n (by omega)
          have hbn := bounds_i64 hn
          generalize hqe : n.tmod 1000000000000000000 = q at hq
          go_wp2
          refine bodyPost_ret (v := .agg #[.bool false, .int .i64 q, .string ⟨#[]⟩]) (by simp [results, Try.results56, go_sem]) rfl ?_
          exact RetS.mk _ _ _ rfl ⟨vok_num (by omega) (by omega) (decide_eq_true (by omega)) (WalkArith.wf_i64 (by omega)), fun h => by cases h⟩ ((h3.alloc h3.size _).alloc (by simp; have := h3.size; omega) _)
      · have f1 := ieq_f e1
        have hn : (Lit.int .i64 (r1 - 2)).wf = true := WalkArith.wf_i64 (by omega)
        clear e0 e1
        have hr : -2 ≤ r1 - 2 ∧ r1 - 2 ≤ 4 := by omega
        have hwr : wrap64 (r1 - 2) = r1 - 2 := by unfold wrap64; omega
        obtain ⟨n, hne⟩ : ∃ n, r1 - 2 = n := ⟨_, rfl⟩
        rw [hne] at hn hr hwr
        rcases h5 with rfl | rfl | rfl | rfl | rfl
        · go_wp2
          refine bodyPost_ret (v := .agg #[.bool false, .int .i64 n, .string ⟨#[]⟩]) (by simp [results, Try.results56, go_sem]) rfl ?_
          exact RetS.mk _ _ _ rfl ⟨vok_num (by omega) (by omega) rfl hn, fun h => by cases h⟩ ((h2.alloc h2.size _).alloc (by simp; have := h2.size; omega) _)
        · have hb := and_one_i64 n
          generalize hbe : bits .and .i64 n 1 = b at hb
          go_wp2
          refine bodyPost_ret (v := .agg #[.bool false, .int .i64 b, .string ⟨#[]⟩]) (by simp [results, Try.results56, go_sem]) rfl ?_
          exact RetS.mk _ _ _ rfl ⟨vok_num (by omega) (by omega) (by rcases hb with rfl | rfl <;> rfl) (by rcases hb with rfl | rfl <;> decide), fun h => by cases h⟩ ((h2.alloc h2.size _).alloc (by simp; have := h2.size; omega) _)
        · try subst hne
          go_wp2_with fail
          refine (snext_any w0 w2 [_, _] B g v zl 4 h2 (by omega) (by omega)).mono ?_
          rintro e w' ⟨k, wz, rfl, ⟨ka, kb⟩, hz, hS, rfl⟩
          simp only [grow]
          rw [hS]
          clear hS h2
          obtain ⟨k0, rfl⟩ := Int.eq_ofNat_of_zero_le ka
          have hconv := run_string1 (P := Try.prog) 90 9 5 Try.underlying90 Try.underlying5 Try.underlying9
          go_wp2_with fail
          generalize hH : wz.heap.size = H at *
          go_loopw [6, 7] (fun x y wr => ∃ (l : List UInt8) (j : Nat) (os : List Obj) (wx : World), x = .string (str l) ∧ y = .int .i64 (j : Int) ∧ l.length + j ≤ 3 ∧ Src w0 wx B g v zl ∧ wx.heap.size = H ∧
              wr = grow wx ((.cells #[.string nm, .int .i64 3, .int .i64 sc, .bool true] 66) :: (.cells #[.bool false, .int .i64 0, .string ⟨#[]⟩] 32) :: os))
            (fun _ y _ => (intOf y).toNat)
          case atStart => exact ⟨[], k0, [], wz, rfl, rfl, by simp; omega, hz, hH, rfl⟩
          case round =>
            obtain ⟨l, j, os, wx, rfl, rfl, hlj, hx, hH, rfl⟩ := hrel
            by_cases j0 : j = 0
            · subst j0
              have hlt : ∀ os' : List Obj, (grow wx os').heap.size = wx.heap.size + os'.length := fun os' => grow_size os' wx
              have hbel := Src.grow ((.cells #[.string nm, .int .i64 3, .int .i64 sc, .bool true] 66) :: (.cells #[.bool false, .int .i64 0, .string ⟨#[]⟩] 32) :: os) hx
              have hbw := hx.gb.size
              have c0 : ∀ i, (grow wx ((.cells #[.string nm, .int .i64 3, .int .i64 sc, .bool true] 66) :: (.cells #[.bool false, .int .i64 0, .string ⟨#[]⟩] 32) :: os)).cell? ⟨H + 1, i, none⟩ =
                  ((wx.alloc (.cells #[.string nm, .int .i64 3, .int .i64 sc, .bool true] 66)).alloc (.cells #[.bool false, .int .i64 0, .string ⟨#[]⟩] 32)).cell? ⟨H + 1, i, none⟩ := fun i => grow_cell os _ (by simp; omega)
              have f0 : ∀ i, (grow wx ((.cells #[.string nm, .int .i64 3, .int .i64 sc, .bool true] 66) :: (.cells #[.bool false, .int .i64 0, .string ⟨#[]⟩] 32) :: os)).frozen? ⟨H + 1, i, none⟩ =
                  ((wx.alloc (.cells #[.string nm, .int .i64 3, .int .i64 sc, .bool true] 66)).alloc (.cells #[.bool false, .int .i64 0, .string ⟨#[]⟩] 32)).frozen? ⟨H + 1, i, none⟩ := fun i => grow_frozen os _ (by simp; omega)
              have k0 := c0 0
              have k1 := c0 1
              have k2 := c0 2
              have g0 := f0 0
              have g1 := f0 1
              have g2 := f0 2
              subst hH
              simp at k0 k1 k2 g0 g1 g2
              have hBs := hx.size
              clear hx hlt hz c0 f0 hconv
              generalize grow wx _ = wr at *
              go_wp2
              obtain ⟨m0, m1, m2⟩ := set3_cells (x := .bool false) (y := .int .i64 0) (z := .string (str l)) k0 k1 k2
              have hB3 := ((hbel.setO (b := wx.heap.size + 1) (by omega) 0 (.bool false)).setO (b := wx.heap.size + 1) (by omega) 1 (.int .i64 0)).setO (b := wx.heap.size + 1) (by omega) 2 (.string (str l))
              generalize ((wr.setCell ⟨wx.heap.size + 1, 0, none⟩ (.bool false)).setCell ⟨wx.heap.size + 1, 1, none⟩ (.int .i64 0)).setCell ⟨wx.heap.size + 1, 2, none⟩ (.string (str l)) = w9 at *
              refine bodyPost_ret (v := .agg #[.bool false, .int .i64 0, .string (str l)]) (by simp [results, Try.results56, go_sem, m0, m1, m2]) rfl ?_
              exact RetS.mk _ _ _ rfl ⟨vok_bytes l (by omega), fun h => by cases h⟩ hB3
            · have hj1 : 1 ≤ j := by omega
              clear j0
              go_wp2_with fail
              refine (snext_any w0 wx _ B g v zl 3 hx (by omega) (by omega)).mono ?_
              rintro e w' ⟨q, wy, rfl, ⟨qa, qb⟩, hy, hS, rfl⟩
              rw [hH] at hS
              obtain ⟨q, rfl⟩ := Int.eq_ofNat_of_zero_le qa
              have hadd := run_add_str (P := Try.prog) l 3 (by omega) (by omega)
              have hcv := fun c m => hconv (grow wy ((.cells #[.string nm, .int .i64 3, .int .i64 sc, .bool true] 66) :: (.cells #[.bool false, .int .i64 0, .string ⟨#[]⟩] 32) :: os)) c m
              obtain ⟨W, hW⟩ : ∃ W, W = grow wy ((.cells #[.string nm, .int .i64 3, .int .i64 sc, .bool true] 66) :: (.cells #[.bool false, .int .i64 0, .string ⟨#[]⟩] 32) :: os) := ⟨_, rfl⟩
              rw [← hW] at hcv ⊢
              have HW := Lib.hid hW
              have HS := Lib.hid hS
              clear hW hconv hx hH hz hS
              go_wp2
              go_roundw
              case rel => exact ⟨_, j - 1, _, wy, rfl, by go_num, by simp; omega, hy, HS.out.symm, by rw [HW.out, grow_snoc]; rfl⟩
              case measure => simp [intOf] <;> omega
        · have hq : -700000 < n.tmod 700000 ∧ n.tmod 700000 < 700000 := tmod_bd n (by omega)
          have hbn := bounds_i64 hn
          generalize hqe : n.tmod 700000 = q at hq
          go_wp2
          refine bodyPost_ret (v := .agg #[.bool false, .int .i64 q, .string ⟨#[]⟩]) (by simp [results, Try.results56, go_sem]) rfl ?_
          exact RetS.mk _ _ _ rfl ⟨vok_num (by omega) (by omega) (decide_eq_true (by omega)) (WalkArith.wf_i64 (by omega)), fun h => by cases h⟩ ((h2.alloc h2.size _).alloc (by simp; have := h2.size; omega) _)
        · have hq : -1000000000000000000 < n.tmod 1000000000000000000 ∧ n.tmod 1000000000000000000 < 1000000000000000000 := tmod_bd n (by omega)
          have hbn := bounds_i64 hn
          generalize hqe : n.tmod 1000000000000000000 = q at hq
          go_wp2
          refine bodyPost_ret (v := .agg #[.bool false, .int .i64 q, .string ⟨#[]⟩]) (by simp [results, Try.results56, go_sem]) rfl ?_
          exact RetS.mk _ _ _ rfl ⟨vok_num (by omega) (by omega) (decide_eq_true (by omega)) (WalkArith.wf_i64 (by omega)), fun h => by cases h⟩ ((h2.alloc h2.size _).alloc (by simp; have := h2.size; omega) _)
end Go.Proofs.Ytjbkeipagdmlpaa
