/- Records copied with rows of their own: package slices' Clone, package batch's copyOf. -/
import Derived.Test.YtnmlajmaffiigaaGreatDoorGb
import Derived.Test.YtnmlajmaffiigaaGreatDoorGl
import Derived.Test.YtnmlajmaffiigaaGreatDoorGs
import Derived.Test.YtnmlajmaffiigaaGreatDoorGc
import Derived.Maps.AppendAt
import Derived.Deep.RegionWith
import Derived.Deep.CutRange
namespace Go.RS
open Go.RowKit Go.VB Go.VS Go.VL Go.SC Go.CK Go.ST Go.MK
/-- Own rows of values as own rows of a layout. -/
theorem ownL_K {e : TypeId} {w : World} {base : Nat} {v : Value} {l : List Vl} (h : OwnL e w base v l) : OwnK valL e w base v l := h
theorem ownK_L {e : TypeId} {w : World} {base : Nat} {v : Value} {l : List Vl} (h : OwnK valL e w base v l) : OwnL e w base v l := h
theorem ownL_sl {e : TypeId} {w : World} {base : Nat} {v : Value} {l : List Vl} (h : OwnL e w base v l) : ∃ A n c, v = .slice A n c := by
  rcases (ownL_K h).forms with ⟨rfl, _⟩ | ⟨g, c, rfl, _⟩
  · exact ⟨none, 0, 0, rfl⟩
  · exact ⟨_, _, _, rfl⟩
/-- The records hold these rows, each the call's own. -/
def DeepO (e : TypeId) (w : World) (b : Nat) (ps : List Rs) (l : List Rc) : Prop := ps.length = l.length ∧ ∀ (i : Nat) (p : Rs) (r : Rc), ps[i]? = some p → l[i]? = some r → p.seq = r.seq ∧ OwnL e w b p.row.val r.row
section
variable {e : TypeId} {w w' : World} {b : Nat} {ps : List Rs} {l : List Rc}
theorem DeepO.nil (e : TypeId) (w : World) (b : Nat) : DeepO e w b [] [] := ⟨rfl, fun i p r h _ => by simp at h⟩
theorem DeepO.below (h : DeepO e w b ps l) (hb : Below w.heap.size w w') : DeepO e w' b ps l := ⟨h.1, fun i p r h1 h2 => ⟨(h.2 i p r h1 h2).1, (h.2 i p r h1 h2).2.below hb⟩⟩
theorem DeepO.set (h : DeepO e w b ps l) {a : Addr} (ha : a.block < b) (x : Value) : DeepO e (w.setCell a x) b ps l := ⟨h.1, fun i p r h1 h2 => ⟨(h.2 i p r h1 h2).1, ownsRow_setCell_below (h.2 i p r h1 h2).2 ha x⟩⟩
theorem DeepO.read (h : DeepO e w b ps l) : DeepR w w.heap.size ps l := ⟨h.1, fun i p r h1 h2 => ⟨(h.2 i p r h1 h2).1, (h.2 i p r h1 h2).2.read⟩⟩
end
/-- Rows of different elements lie in different blocks. -/
theorem own_apart {w : World} {b1 b2 s1 s2 n1 n2 : Nat} {e1 e2 : TypeId} {v1 v2 : Value} {xs1 xs2 : List Value} (h1 : w.ownsRow b1 e1 s1 v1 n1 xs1) (h2 : w.ownsRow b2 e2 s2 v2 n2 xs2) (he : e1 ≠ e2) : v1.ownBlock = none ∨ v1.ownBlock ≠ v2.ownBlock := by
  rcases h1.2 with ⟨rfl, _⟩ | ⟨g, c, cur, rfl, _, hg, _⟩
  · exact .inl rfl
  · right
    intro e
    rcases h2.2 with ⟨rfl, _⟩ | ⟨g2, c2, cur2, rfl, _, hg2, _⟩
    · cases e
    · obtain rfl : g = g2 := Option.some.inj e
      rw [hg] at hg2
      injection hg2 with h
      injection h with _ h
      exact he h
/-- Records of the call's own, with rows of the call's own. -/
def OwnRs (eR eV : TypeId) (w : World) (b : Nat) (v : Value) (l : List Rc) : Prop := ∃ ps, OwnK recL eR w b v ps ∧ DeepO eV w b ps l
section
variable {eR eV e : TypeId} {w w' : World} {b b' : Nat} {v : Value} {l : List Rc} {ps : List Rs}
theorem OwnRs.below (h : OwnRs eR eV w b v l) (hb : Below w.heap.size w w') : OwnRs eR eV w' b v l := by
  obtain ⟨ps, h1, h2⟩ := h; exact ⟨ps, h1.below hb, h2.below hb⟩
theorem OwnRs.read (h : OwnRs eR eV w b v l) : RdR w w.heap.size v l := by
  obtain ⟨ps, h1, h2⟩ := h; exact ⟨ps, OwnK.read h1, h2.read⟩
end
/-- A slice of the call's own with these values. -/
def OwnQ (e : TypeId) (b : Nat) (l : List Vl) : Go.Confl.Post := fun v w => ∃ A n c, v = .slice A n c ∧ OwnL e w b (.slice A n c) l
theorem OwnQ.stable (e : TypeId) (b : Nat) (l : List Vl) : Go.Confl.Stable (OwnQ e b l) := fun _ _ _ ⟨A, n, c, h1, h2⟩ hb => ⟨A, n, c, h1, h2.below hb⟩
/-- A record whose row is the call's own. -/
def RecQo (e : TypeId) (b : Nat) (q : Int) (l : List Vl) : Go.Confl.Post := fun v w => ∃ A n c, v = .agg #[.int .i64 q, .slice A n c] ∧ OwnL e w b (.slice A n c) l
theorem RecQo.stable (e : TypeId) (b : Nat) (q : Int) (l : List Vl) : Go.Confl.Stable (RecQo e b q l) := fun _ _ _ ⟨A, n, c, h1, h2⟩ hb => ⟨A, n, c, h1, h2.below hb⟩
theorem take_snoc {α : Type} {l : List α} {j : Nat} {x : α} (h : l[j]? = some x) : l.take (j + 1) = l.take j ++ [x] := by
  rw [List.take_add_one, h]; rfl
end Go.RS
namespace Go.Proofs.YtnmlajmaffiigaaGreatDoor
open Go.RowKit Go.VB Go.VS Go.VL Go.SC Go.CK Go.ST Go.MK Go.RS
set_option linter.constructorNameAsVariable false
end Go.Proofs.YtnmlajmaffiigaaGreatDoor

namespace Go.RS
open Go.RowKit Go.VB Go.VS Go.VL Go.SC Go.CK Go.ST Go.MK
theorem colL_snoc {c j : Nat} {l : List Rc} {r : Rc} (h : l[j]? = some r) : colL c (l.take (j + 1)) = colL c (l.take j) ++ [r.row.getD c ⟨true, 0, ⟨#[]⟩⟩] := by
  unfold colL
  rw [take_snoc h, List.map_append]; rfl
theorem colL_len (c : Nat) (l : List Rc) : (colL c l).length = l.length := List.length_map _
/-- The columns from 0 to n - 1. -/
def colsL (n : Int) (l : List Rc) : List (List Vl) := if n < 1 ∨ 12 < n then [] else (List.range n.toNat).map fun c => colL c l
theorem colsL_out {n : Int} {l : List Rc} (h : n < 1 ∨ 12 < n) : colsL n l = [] := if_pos h
theorem colsL_in {n : Nat} {l : List Rc} (h1 : 1 ≤ n) (h2 : n ≤ 12) : colsL n l = (List.range n).map fun c => colL c l := by
  unfold colsL; rw [if_neg (by omega), Int.toNat_natCast]
/-- The slices hold these lists, each the call's own. -/
def DeepLO (e : TypeId) (w : World) (b : Nat) (ps : List Sl) (ls : List (List Vl)) : Prop := ps.length = ls.length ∧ ∀ (i : Nat) (p : Sl) (l : List Vl), ps[i]? = some p → ls[i]? = some l → OwnL e w b p.val l
section
variable {e eR eV : TypeId} {w w' : World} {b b' : Nat} {ps : List Sl} {ls : List (List Vl)} {rs : List (List Rc)}
theorem DeepLO.nil (e : TypeId) (w : World) (b : Nat) : DeepLO e w b [] [] := ⟨rfl, fun i p r h _ => by simp at h⟩
theorem DeepLO.below (h : DeepLO e w b ps ls) (hb : Below w.heap.size w w') : DeepLO e w' b ps ls := ⟨h.1, fun i p r h1 h2 => (h.2 i p r h1 h2).below hb⟩
theorem DeepLO.lower (h : DeepLO e w b ps ls) (hb : b' ≤ b) : DeepLO e w b' ps ls := ⟨h.1, fun i p r h1 h2 => (h.2 i p r h1 h2).lower hb⟩
theorem DeepLO.set (h : DeepLO e w b ps ls) {a : Addr} (ha : a.block < b) (x : Value) : DeepLO e (w.setCell a x) b ps ls := ⟨h.1, fun i p r h1 h2 => ownsRow_setCell_below (h.2 i p r h1 h2) ha x⟩
theorem DeepLO.keep {b2 s2 n2 : Nat} {e2 : TypeId} {v2 : Value} {xs : List Value} (h : DeepLO e w b ps ls) (h2 : w.ownsRow b2 e2 s2 v2 n2 xs) (he : e ≠ e2) (hg : w.grownBy w' v2.ownBlock) : DeepLO e w' b ps ls :=
  ⟨h.1, fun i p r h3 h4 => (h.2 i p r h3 h4).keep hg (own_apart (h.2 i p r h3 h4) h2 he)⟩
theorem DeepLO.read (h : DeepLO e w b ps ls) : DeepL w w.heap.size ps ls := ⟨h.1, fun i p r h1 h2 => (h.2 i p r h1 h2).read⟩
theorem snoc_cases {α β : Type} {ps : List α} {ls : List β} {p : α} {l : β} (hlen : ps.length = ls.length) {P : α → β → Prop} (h : ∀ (i : Nat) (p : α) (l : β), ps[i]? = some p → ls[i]? = some l → P p l) (hp : P p l) :
    ∀ (i : Nat) (p' : α) (l' : β), (ps ++ [p])[i]? = some p' → (ls ++ [l])[i]? = some l' → P p' l' := by
  intro i p' l' h1 h2
  by_cases hi : i < ps.length
  · rw [List.getElem?_append_left hi] at h1
    rw [List.getElem?_append_left (by rw [← hlen]; exact hi)] at h2
    exact h i p' l' h1 h2
  · rw [List.getElem?_append_right (by omega)] at h1
    rw [List.getElem?_append_right (by rw [← hlen]; omega), ← hlen] at h2
    match hj : i - ps.length, h1, h2 with
    | 0, h1, h2 => simp at h1 h2; subst h1 h2; exact hp
    | _ + 1, h1, _ => simp at h1
theorem DeepLO.snoc {p : Sl} {l : List Vl} (h : DeepLO e w b ps ls) (hp : OwnL e w b p.val l) : DeepLO e w b (ps ++ [p]) (ls ++ [l]) :=
  ⟨by rw [List.length_append, List.length_append, h.1]; rfl, snoc_cases h.1 (P := fun p l => OwnL e w b p.val l) h.2 hp⟩
/-- The slices hold these lists of records, each the call's own. -/
def DeepPO (eR eV : TypeId) (w : World) (b : Nat) (ps : List Sl) (rs : List (List Rc)) : Prop := ps.length = rs.length ∧ ∀ (i : Nat) (p : Sl) (l : List Rc), ps[i]? = some p → rs[i]? = some l → OwnRs eR eV w b p.val l
theorem DeepPO.nil (eR eV : TypeId) (w : World) (b : Nat) : DeepPO eR eV w b [] [] := ⟨rfl, fun i p r h _ => by simp at h⟩
theorem DeepPO.below (h : DeepPO eR eV w b ps rs) (hb : Below w.heap.size w w') : DeepPO eR eV w' b ps rs := ⟨h.1, fun i p r h1 h2 => (h.2 i p r h1 h2).below hb⟩
theorem DeepPO.read (h : DeepPO eR eV w b ps rs) : DeepP w w.heap.size ps rs := ⟨h.1, fun i p r h1 h2 => (h.2 i p r h1 h2).read⟩
end
end Go.RS
namespace Go.Proofs.YtnmlajmaffiigaaGreatDoor
open Go.RowKit Go.VB Go.VS Go.VL Go.SC Go.CK Go.ST Go.MK Go.RS
set_option linter.constructorNameAsVariable false
theorem Tryz.infSl : (Tryz.prog.info? 63).map (fun i => (i.zero, i.size, i.bytes)) = some (some (.slice none 0 0), 1, 24) := by kernel_rfl
set_option maxRecDepth 100000 in
set_option maxHeartbeats 1000000 in
theorem vals_any (x : Value) (l : List Rc) (c : Nat) (W : World) (hx : RdR W W.heap.size x l) (hb : l.length * 32 ≤ 140737488351232) :
    Calls Tryz.prog 116 #[x, .int .i64 (c : Int)] W (RetVl 49 (colL c l) W) := by
  obtain ⟨A, cap, n, rfl, hn, hnc, hcm⟩ := hx.bds
  have hmk1 := run_make3 (P := Tryz.prog) Tryz.underlying63 Tryz.infVal n (by omega) (by unfold maxLen; omega) W
  have hrw0 := RowL.made 49 W W.heap.size n (Nat.le_refl _) (by unfold maxLen; omega)
  have hb0 : Below W.heap.size W (W.alloc (.cells (madeCells #[.bool false, .int .i64 0, .string ⟨#[]⟩] (n * 3)) 49)) := (Below.refl _ _).alloc (Nat.le_refl _) _
  generalize (W.alloc (.cells (madeCells #[.bool false, .int .i64 0, .string ⟨#[]⟩] (n * 3)) 49)) = W1 at hrw0 hb0 hmk1
  have HN := Lib.hid hn; have HX := Lib.hid hx
  clear hn hx hb
  go_enter Tryz.func116, Tryz.ntmps116
  go_wp2
  clear hmk1
  go_loopw [6, 7, 13] (fun _ _ i wr => ∃ (j : Nat) (ls : List Vl), i = .int .i64 j ∧ j ≤ n ∧ RowL 49 wr W.heap.size W.heap.size n ls ∧ Hid (ls.length = n) ∧ Hid (ls = colL c (l.take j) ++ List.replicate (n - j) vl0) ∧ Below W.heap.size W wr) (fun _ _ i _ => n - (intOf i).toNat)
  case atStart => exact ⟨0, _, rfl, Nat.zero_le _, hrw0, Lib.hid List.length_replicate, Lib.hid rfl, hb0⟩
  case round =>
    clear hrw0 hb0
    obtain ⟨j, ls, rfl, hj, hrw, HL, HQ, hbel⟩ := hrel
    have hgw := hrw.lt.2
    have HDL := Lib.hid (show (colL c (l.take j)).length = j by rw [colL_len, List.length_take]; have := HN.out; omega)
    by_cases hlt : j < n
    · have hjl : j < l.length := by have := HN.out; omega
      have hlj : l[j]? = some l[j] := List.getElem?_eq_getElem hjl
      obtain ⟨ad, rA, rn, rc, rfl, -, q0, q1, hrn, qr⟩ := (HX.out.below hbel).at hlj
      have HCS := Lib.hid (colL_snoc (c := c) hlj)
      generalize l[j] = R at q0 q1 qr hrn HCS
      clear hlj hjl
      obtain ⟨q, row⟩ := R
      simp only at q0 q1 qr hrn HCS
      have hold := fill_at HQ.out HDL.out hlt
      obtain ⟨k0, k1, k2⟩ := hrw.at hold
      have hf0 := hrw.frozen (j * 3)
      have hf1 := hrw.frozen (j * 3 + 1)
      have hf2 := hrw.frozen (j * 3 + 2)
      have hrp0 := hrw.put j ⟨true, 0, ⟨#[]⟩⟩ hold
      simp only at hrp0
      have hbv0 := set3_belowL (Below.refl W.heap.size wr) (Nat.le_refl _) (j * 3) (.bool true) (.int .i64 0) (.string ⟨#[]⟩)
      have hsz0 : (((wr.setCell ⟨W.heap.size, j * 3, none⟩ (.bool true)).setCell ⟨W.heap.size, j * 3 + 1, none⟩ (.int .i64 0)).setCell ⟨W.heap.size, j * 3 + 2, none⟩ (.string ⟨#[]⟩)).heap.size = wr.heap.size := by simp only [World.size_setCell]
      have hrp := hrp0.alloc (.cells #[.int .i64 q, .slice rA rn rc] 67)
      have hV := Var2.new (((wr.setCell ⟨W.heap.size, j * 3, none⟩ (.bool true)).setCell ⟨W.heap.size, j * 3 + 1, none⟩ (.int .i64 0)).setCell ⟨W.heap.size, j * 3 + 2, none⟩ (.string ⟨#[]⟩)) (.int .i64 q) (.slice rA rn rc) 67
      rw [hsz0] at hV
      have hbv := hbv0.alloc (by rw [hsz0]; omega) (.cells #[.int .i64 q, .slice rA rn rc] 67)
      have HRN := Lib.hid hrn
      clear hold hrw hrn hrp0 hbv0 hsz0
      have hd0 : decide (j < n) = true := decide_eq_true hlt
      have hd1 : decide ((j : Int) < (n : Int)) = true := decide_eq_true (by omega)
      go_upto_region 6 with fail
      clear k0 k1 k2 hf0 hf1 hf2 q0 q1
      generalize (((wr.setCell ⟨W.heap.size, j * 3, none⟩ (.bool true)).setCell ⟨W.heap.size, j * 3 + 1, none⟩ (.int .i64 0)).setCell ⟨W.heap.size, j * 3 + 2, none⟩ (.string ⟨#[]⟩)).alloc (.cells #[.int .i64 q, .slice rA rn rc] 67) = X at *
      have hqX := qr.below hbv
      have hbX := hbel.trans hbv
      obtain ⟨v0, v1, -, -⟩ := hV
      by_cases hc : c < rn
      · have hrc : row[c]? = some (row[c]'(by rw [← HRN.out]; exact hc)) := List.getElem?_eq_getElem _
        obtain ⟨ad2, rfl, -, p0, p1, p2⟩ := hqX.at hrc
        have HG := Lib.hid (show row.getD c ⟨true, 0, ⟨#[]⟩⟩ = row[c]'(by rw [← HRN.out]; exact hc) by rw [List.getD_eq_getElem?_getD, hrc]; rfl)
        generalize row[c]'_ = Y at p0 p1 p2 HG
        obtain ⟨yb, yn, ys⟩ := Y
        simp only at p0 p1 p2
        have hold2 : (ls.set j (⟨true, 0, ⟨#[]⟩⟩ : Vl))[j]? = some ⟨true, 0, ⟨#[]⟩⟩ := List.getElem?_set_self (by rw [HL.out]; exact hlt)
        obtain ⟨k0, k1, k2⟩ := hrp.at hold2
        have hf0 := hrp.frozen (j * 3)
        have hf1 := hrp.frozen (j * 3 + 1)
        have hf2 := hrp.frozen (j * 3 + 2)
        have HRS := Lib.hid (hrp.put j ⟨yb, yn, ys⟩ hold2)
        have HB := Lib.hid (set3_belowL hbX (Nat.le_refl _) (j * 3) (.bool yb) (.int .i64 yn) (.string ys))
        have HSN := Lib.hid (fill_snoc (x := (⟨yb, yn, ys⟩ : Vl)) HQ.out HDL.out hlt)
        have hd : decide ((c : Int) < (rn : Int)) = true := decide_eq_true (by omega)
        have hci : (c : Int) < (rn : Int) := by omega
        clear hrc hrp hold2 hqX qr hbv hbX hc
        go_wp2_with fail
        go_roundw
        case rel => exact ⟨j + 1, _, by go_num, hlt, HRS.out, Lib.hid (by rw [List.length_set, List.length_set]; exact HL.out), Lib.hid (by rw [List.set_set, HSN.out, HCS.out, HG.out]), HB.out⟩
        case measure => simp [intOf] <;> omega
      · have HG := Lib.hid (show row.getD c ⟨true, 0, ⟨#[]⟩⟩ = (⟨true, 0, ⟨#[]⟩⟩ : Vl) by rw [List.getD_eq_getElem?_getD, List.getElem?_eq_none (by rw [← HRN.out]; omega)]; rfl)
        have HSN := Lib.hid (fill_snoc (x := (⟨true, 0, ⟨#[]⟩⟩ : Vl)) HQ.out HDL.out hlt)
        have hd : decide ((c : Int) < (rn : Int)) = false := decide_eq_false (by omega)
        have hd2 : decide (c < rn) = false := decide_eq_false hc
        have HRS := Lib.hid hrp; have HB := Lib.hid hbX
        clear hc hqX qr hbv hbX hrp
        go_wp2_with fail
        go_roundw
        case rel => exact ⟨j + 1, _, by go_num, hlt, HRS.out, Lib.hid (by rw [List.length_set]; exact HL.out), Lib.hid (by rw [HSN.out, HCS.out, HG.out]), HB.out⟩
        case measure => simp [intOf] <;> omega
    · have HF := Lib.hid (show ls = colL c l by rw [HQ.out, show l.take j = l from List.take_of_length_le (by have := HN.out; omega), show n - j = 0 by omega, List.replicate_zero, List.append_nil])
      go_wp2
      go_ret
      exact RetVl.mk rfl (hrw.own_at HL.out HF.out) hbel
end Go.Proofs.YtnmlajmaffiigaaGreatDoor

namespace Go.RS
open Go.RowKit Go.VB Go.VS Go.VL Go.SC Go.CK Go.ST Go.MK
section
variable {w : World} {B n c i : Nat} {ad : Addr} {l : List Rc}
end
end Go.RS
namespace Go.Proofs.YtnmlajmaffiigaaGreatDoor
open Go.RowKit Go.VB Go.VS Go.VL Go.SC Go.CK Go.ST Go.MK Go.RS
set_option linter.constructorNameAsVariable false
end Go.Proofs.YtnmlajmaffiigaaGreatDoor
