/- The walks over package delta: numbers with sign, the differences of a list. -/
import Derived.Test.YtjoohmifbkbpbaaDlt
import Derived.Test.YtjoohmifbkbpbaaRleK
import Derived.Test.YtjoohmifbkbpbaaBitW7
import Derived.Test.YtjoohmifbkbpbaaDctF
import Derived.StillTailTactics
namespace Go.VB
open Go.RowKit
section
variable {α : Type} {f : α → Value} {e : TypeId} {w w' : World} {l m : List α} {base g c : Nat}
/-- It returns a list of its own, at its array's head and without room behind it; what was there is as it was. -/
def RetG (f : α → Value) (e : TypeId) (l : List α) (w : World) : Ending → World → Prop := fun en w' =>
  ∃ g, en = .returned (.slice (some ⟨g, 0, none⟩) l.length l.length) ∧ RowV f e w' w.heap.size g l.length l ∧ Below w.heap.size w w'
theorem RetG.mk {x : Value} (hx : x = .slice (some ⟨g, 0, none⟩) l.length l.length) (ho : RowV f e w' w.heap.size g l.length l) (hb : Below w.heap.size w w') : RetG f e l w (.returned x) w' := ⟨g, by rw [hx], ho, hb⟩
/-- A part of a row, from place k on. -/
theorem RowV.part (h : RowV f e w base g c l) {k cc : Nat} (hm : ∀ i x, m[i]? = some x → l[k + i]? = some x) (h1 : m.length ≤ cc) (h2 : cc ≤ maxLen) : RdV f w w.heap.size (.slice (some ⟨g, k, none⟩) m.length cc) m := by
  refine ⟨_, cc, rfl, h1, h2, fun i x hx => ⟨_, rfl, h.lt.2, ?_⟩⟩
  rw [Addr.add_lit]
  exact h.cell _ _ (hm i x hx)
theorem RowV.keep {row : Option Nat} (h : RowV f e w base g c l) (hg : w.grownBy w' row) (hne : row ≠ some g) : RowV f e w' base g c l :=
  World.ownsRow.kept h hg (.inr (by simp only [Value.ownBlock]; exact fun e => hne e.symm))
end
end Go.VB
namespace Go.Proofs.Ytjoohmifbkbpbaa
open Go.RowKit Go.VB Go.VarM Go.BP Go.RL Go.DL
set_option maxHeartbeats 400000 in
theorem putsig_any (x : Int) (w : World) (hx : -9223372036854775808 ≤ x ∧ x ≤ 9223372036854775807) :
    Calls Try.prog 17 #[.int .i64 x] w (RetB (.string (str (putL (zigN x).toNat))) w) := by
  obtain ⟨z, hz1, hz2, hz3⟩ := zig_nat hx
  have HZ := fun w => vzig_any x w hx.1 hx.2
  rw [hz1] at HZ
  rw [hz2]
  have HZZ := fun w => Lib.hid (HZ w)
  have HP := fun w => Lib.hid (vput_any z w hz3)
  clear HZ hz1 hz2
  go_enter Try.func17, Try.ntmps17
  go_wp2_with (first
    | (go_at_call 33; (with_reducible refine (HZZ _).out.mono ?_); rintro e w' ⟨rfl, rfl⟩)
    | (go_at_call 32; (with_reducible refine (HP _).out.mono ?_); rintro e w3 ⟨rfl, hb⟩))
  go_ret
  exact RetB.mk rfl hb
set_option maxHeartbeats 400000 in
theorem getsig_e (s : ByteArray) (p : Int) (w : World) (hs : s.size ≤ maxLen) {a : Nat} {b : Int} {c : Nat} (hg : getR s p = (a, b, c)) (hc : c ≠ 0) :
    Calls Try.prog 30 #[.string s, .int .i64 p] w (Ret (.tuple #[.int .i64 0, .int .i64 0, .int .i64 (c : Int)]) w) := by
  have HG := Lib.hid (vget_is s p w hs hg)
  have hd : ((c : Int) != 0) = true := by simp; omega
  clear hg hc
  go_enter Try.func30, Try.ntmps30
  go_wp2_with (go_at_call 42; (with_reducible refine HG.out.mono ?_); rintro e w' ⟨rfl, rfl⟩)
  go_ret3
  exact Ret.mk rfl
set_option maxHeartbeats 400000 in
theorem getsig_ok (s : ByteArray) (p : Int) (w : World) (hs : s.size ≤ maxLen) {a : Nat} {b : Int} (hg : getR s p = (a, b, 0)) :
    Calls Try.prog 30 #[.string s, .int .i64 p] w (Ret (.tuple #[.int .i64 (zagN a), .int .i64 b, .int .i64 0]) w) := by
  have HG := Lib.hid (vget_ok s p w hs hg)
  have hz : a < 18446744073709551616 := by
    obtain ⟨_, _, _, _, _, _, _, h⟩ := getR_zero hg; exact h
  have HZ := Lib.hid (vzag_any a w (by omega) (by omega))
  clear hg hz
  go_enter Try.func30, Try.ntmps30
  go_wp2_with (first
    | (go_at_call 42; (with_reducible refine HG.out.mono ?_); rintro e w' ⟨rfl, rfl⟩)
    | (go_at_call 43; (with_reducible refine HZ.out.mono ?_); rintro e w' ⟨rfl, rfl⟩))
  go_ret3
  exact Ret.mk rfl
set_option maxRecDepth 100000 in
set_option maxHeartbeats 1000000 in
theorem lag_any (v : Value) (u : List Nat) (B : Nat) (w : World) (hr : RdN .u64 w B v u) (hB : B ≤ w.heap.size) (h0 : 0 < u.length) (h64 : ∀ x ∈ u, x < 18446744073709551616) :
    Calls Try.prog 34 #[v] w (RetB (.tuple #[.int .u64 (lo u : Nat), .int .u64 (gr u : Nat)]) w) := by
  obtain ⟨A, c, rfl, hc1, hc2, hr'⟩ := hr
  have hr : RdN .u64 w B (.slice A u.length c) u := ⟨A, c, rfl, hc1, hc2, hr'⟩
  unfold maxLen at hc2
  obtain ⟨ad, rfl, hab, hg0⟩ := hr' 0 h0
  rw [addr_zero] at hg0
  have hh : u.getD 0 0 = u.headD 0 := by cases u <;> rfl
  rw [hh] at hg0
  have hl : u.foldl min (u.headD 0) = lo u := rfl
  have hm : u.foldl max (u.headD 0) = gr u := rfl
  generalize u.headD 0 = q at *
  generalize lo u = L at *
  generalize gr u = G at *
  clear hr' hh
  have HR := Lib.hid hr; have HL := Lib.hid hl; have HM := Lib.hid hm; have H64 := Lib.hid h64
  clear hr hl hm h64
  go_enter Try.func34, Try.ntmps34
  go_wp2_with fail
  go_region
  go_wp2_with fail
  go_loopw [4, 5, 16] (fun a b i wr => ∃ (x y j : Nat), a = .int .u64 x ∧ b = .int .u64 y ∧ i = .int .i64 j ∧ j ≤ u.length ∧ (u.take j).foldl min q = x ∧ (u.take j).foldl max q = y ∧ Below w.heap.size w wr) (fun _ _ i _ => u.length - (intOf i).toNat)
  case atStart => exact ⟨q, q, 0, rfl, rfl, rfl, Nat.zero_le _, rfl, rfl, (Below.refl _ _).drew⟩
  case round =>
    clear hg0
    obtain ⟨x, y, j, rfl, rfl, rfl, hj, hx, hy, hbel⟩ := hrel
    have HX := Lib.hid hx; have HY := Lib.hid hy
    clear hx hy
    by_cases hlt : j < u.length
    · obtain ⟨_, _, hv1, _, _, hcx⟩ := HR.out.below (hbel.mono hB)
      cases hv1
      obtain ⟨ad', e1, _, hgx⟩ := hcx j hlt
      cases e1
      have hlj : u[j]? = some (u.getD j 0) := by rw [List.getD_eq_getElem?_getD, List.getElem?_eq_getElem hlt]; rfl
      have HS1 := Lib.hid (fold_snoc min q hlj)
      have HS2 := Lib.hid (fold_snoc max q hlj)
      clear hcx hlj
      generalize u.getD j 0 = V at *
      go_wp2_with fail
      go_roundw
      case rel => exact ⟨min x V, max y V, j + 1, vint (by split <;> omega), vint (by split <;> omega), by go_num, hlt, by rw [HS1.out, HX.out], by rw [HS2.out, HY.out], hbel⟩
      case measure => simp [intOf] <;> omega
    · have hx : x = L := by rw [← HX.out, ← HL.out, List.take_of_length_le (by omega)]
      have hy : y = G := by rw [← HY.out, ← HM.out, List.take_of_length_le (by omega)]
      subst hx; subst hy
      go_wp2
      go_ret2
      exact RetB.mk rfl hbel
theorem add_up (a : Addr) (j : Nat) : a.add (j + 1) = ⟨a.block, a.off + (j + 1), none⟩ := by unfold Addr.add; rw [if_neg (by omega)]
set_option maxRecDepth 100000 in
set_option maxHeartbeats 2000000 in
theorem diffs_any (v : Value) (l : List Int) (B : Nat) (w : World) (hr : RdV (Value.int .i64) w B v l) (hB : B ≤ w.heap.size) (h0 : 0 < l.length) (hl : l.length ≤ 4096) :
    Calls Try.prog 18 #[v] w (RetG (Value.int .i64) 2 (df l) w) := by
  obtain ⟨A, c, rfl, hc1, hc2, hr'⟩ := hr
  have hr : RdV (Value.int .i64) w B (.slice A l.length c) l := ⟨A, c, rfl, hc1, hc2, hr'⟩
  clear hr'
  unfold maxLen at hc2
  obtain ⟨n, hn⟩ : ∃ n, l.length = n + 1 := ⟨l.length - 1, by omega⟩
  have hdl : (df l).length = n := by rw [df_len, hn]; omega
  have hn' : (l.length : Int) - 1 = (n : Int) := by omega
  have hmk := run_makeV (P := Try.prog) (t := 23) (z := .int .i64 0) rfl Try.underlying23 Try.infI64 n (by omega) (by unfold maxLen; omega) w
  have hrow := RowV.made (Value.int .i64) 0 2 w w.heap.size n (Nat.le_refl _) (by unfold maxLen; omega)
  have hb2 := (Below.refl w.heap.size w).alloc (Nat.le_refl _) (.cells (madeCells #[.int .i64 0] n) 2)
  generalize w.alloc (.cells (madeCells #[.int .i64 0] n) 2) = w1 at hmk hrow hb2
  have HR := Lib.hid hr; have HN := Lib.hid hn; have HDL := Lib.hid hdl
  clear hr hdl
  go_enter Try.func18, Try.ntmps18
  go_wp2_with fail
  go_loopw [11] (fun i wr => ∃ (j : Nat) (L : List Int), i = .int .i64 j ∧ j ≤ n ∧ RowV (Value.int .i64) 2 wr w.heap.size w.heap.size n L ∧ L = (df l).take j ++ List.replicate (n - j) 0 ∧ Below w.heap.size w wr) (fun i _ => n - (intOf i).toNat)
  case atStart => exact ⟨0, _, rfl, Nat.zero_le _, hrow, fill_start (df l) n 0, hb2⟩
  case round =>
    clear hrow hb2 hmk
    obtain ⟨j, L, rfl, hj, hrow, hL, hbel⟩ := hrel
    have HL := Lib.hid hL; clear hL
    by_cases hjl : j < n
    · have hlj : l[j]? = some (l[j]'(by omega)) := List.getElem?_eq_getElem _
      have hlk : l[j + 1]? = some (l[j + 1]'(by omega)) := List.getElem?_eq_getElem _
      have hrd := HR.out.below (hbel.mono hB)
      obtain ⟨_, _, hv1, _, _, hcx⟩ := hrd
      cases hv1
      obtain ⟨ad, rfl, _, hgx⟩ := hcx _ _ hlj
      obtain ⟨_, e1, _, hgy⟩ := hcx _ _ hlk
      cases e1
      have hdf := df_at hlj hlk
      rw [add_up ad j] at hgy
      have HSE := Lib.hid (fill_set (z := 0) HDL.out hjl hdf)
      clear hcx hlj hlk
      generalize l[j]'_ = x at *
      generalize l[j + 1]'_ = y at *
      have hst : RowV (Value.int .i64) 2 (wr.setCell ⟨w.heap.size, j, none⟩ (.int .i64 (wrap64 (y - x)))) w.heap.size w.heap.size n (L.set j (wrap64 (y - x))) := hrow.store j (wrap64 (y - x))
      have hfr := hrow.frozen j
      have hlL : L.length = n := by rw [HL.out]; exact fill_len HDL.out hj
      have hLj : L[j]? = some (L[j]'(by omega)) := List.getElem?_eq_getElem _
      have hcl := hrow.cell j _ hLj
      generalize L[j]'_ = old at hcl
      have hbel2 : Below w.heap.size w (wr.setCell ⟨w.heap.size, j, none⟩ (.int .i64 (wrap64 (y - x)))) := hbel.setCell (p := ⟨w.heap.size, j, none⟩) (Nat.le_refl _) _
      have HST := Lib.hid hst; have HBE := Lib.hid hbel2
      clear hLj hst hbel2 hdf
      go_wp2_with fail
      go_region
      go_wp2_with fail
      go_roundw
      case rel => exact ⟨j + 1, L.set j (wrap64 (y - x)), by go_num, hjl, HST.out, by rw [HL.out]; exact HSE.out, HBE.out.drew⟩
      case measure => simp [intOf] <;> omega
    · have hjn : j = n := by omega
      have hfin : L = df l := by rw [HL.out, hjn]; exact fill_end HDL.out
      subst hfin
      go_wp2
      go_ret
      have hdl := HDL.out
      exact RetG.mk (g := w.heap.size) (by rw [hdl]; rfl) (by rw [hdl]; exact hrow) hbel
end Go.Proofs.Ytjoohmifbkbpbaa
