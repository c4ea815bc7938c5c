/- The statements' own comparison of rows, records and lists of records: true exactly where they are equal. -/
import Derived.Test.YtjbkeipagdmlpaaRcs
import Derived.Test.YtjbkeipagdmlpaaKit
import Derived.Test.YtjbkeipagdmlpaaValV
namespace Go.RS
open Go.RowKit Go.VB Go.VS Go.MK Go.Proofs.Ytjbkeipagdmlpaa
/-- A truth value that says whether p holds; no older block has changed. -/
def SameP (p : Prop) (w : World) : Ending → World → Prop := fun en w' => ∃ b : Bool, en = .returned (.bool b) ∧ (b = true ↔ p) ∧ Below w.heap.size w w'
theorem SameP.no {p : Prop} {w w' : World} {x : Value} (hx : x = .bool false) (hp : ¬ p) (hb : Below w.heap.size w w') : SameP p w (.returned x) w' := ⟨false, by rw [hx], by simp [hp], hb⟩
theorem SameP.yes {p : Prop} {w w' : World} {x : Value} (hx : x = .bool true) (hp : p) (hb : Below w.heap.size w w') : SameP p w (.returned x) w' := ⟨true, by rw [hx], by simp [hp], hb⟩
theorem vl_ways (a b : Vl) : a = b ∨ (a.nu = true ∧ b.nu = false) ∨ (a.nu = false ∧ b.nu = true) ∨ (a.nu = b.nu ∧ ¬ a.n = b.n) ∨ (a.nu = b.nu ∧ a.n = b.n ∧ ¬ a.s.toList = b.s.toList) := by
  obtain ⟨x, n, s⟩ := a; obtain ⟨y, m, t⟩ := b
  by_cases h2 : s.toList = t.toList
  · have h3 : s = t := by
      rw [ByteArray.toList_eq, ByteArray.toList_eq] at h2
      cases s; cases t; simp only [ByteArray.mk.injEq]; exact Array.toList_inj.1 h2
    subst h3
    by_cases h1 : n = m <;> cases x <;> cases y <;> simp_all
  · by_cases h1 : n = m <;> cases x <;> cases y <;> simp_all
/-- The slices hold these lists of records. -/
def DeepP (w : World) (B : Nat) (ps : List Sl) (ls : List (List Rc)) : Prop := ps.length = ls.length ∧ ∀ (i : Nat) (p : Sl) (l : List Rc), ps[i]? = some p → ls[i]? = some l → RdR w B p.val l
/-- A slice of slices of records that can be read. -/
def RdP (w : World) (B : Nat) (v : Value) (ls : List (List Rc)) : Prop := ∃ ps, RdV Sl.val w B v ps ∧ DeepP w B ps ls
section
variable {w w' : World} {B B' : Nat} {v : Value} {ps : List Sl} {ls ms : List (List Rc)} {lv : List (List Vl)} {A : Option Addr} {n c i : Nat}
theorem DeepP.below (h : DeepP w B ps ls) (hb : Below B w w') : DeepP w' B ps ls := ⟨h.1, fun i p l h1 h2 => (h.2 i p l h1 h2).below hb⟩
theorem DeepP.more (h : DeepP w B ps ls) (hB : B ≤ B') : DeepP w B' ps ls := ⟨h.1, fun i p l h1 h2 => (h.2 i p l h1 h2).more hB⟩
theorem DeepP.nil (w : World) (B : Nat) : DeepP w B [] [] := ⟨rfl, fun i p l h _ => by simp at h⟩
theorem DeepP.app {ps' : List Sl} (h : DeepP w B ps ls) (h' : DeepP w B ps' ms) : DeepP w B (ps ++ ps') (ls ++ ms) := by
  refine ⟨by rw [List.length_append, List.length_append, h.1, h'.1], fun i p l h1 h2 => ?_⟩
  by_cases hi : i < ps.length
  · rw [List.getElem?_append_left hi] at h1
    rw [List.getElem?_append_left (by rw [← h.1]; exact hi)] at h2
    exact h.2 i p l h1 h2
  · rw [List.getElem?_append_right (by omega)] at h1
    rw [List.getElem?_append_right (by rw [← h.1]; omega), ← h.1] at h2
    exact h'.2 _ p l h1 h2
theorem DeepP.one {p : Sl} {x : List Rc} (h : RdR w B p.val x) : DeepP w B [p] [x] := by
  refine ⟨rfl, fun i p' l h1 h2 => ?_⟩
  match i, h1, h2 with
  | 0, h1, h2 => cases h1; cases h2; exact h
theorem DeepP.get (h : DeepP w B ps ls) {x : List Rc} (hx : ls[i]? = some x) : ∃ p, ps[i]? = some p ∧ RdR w B p.val x := by
  have hi : i < ps.length := by rw [h.1]; exact (List.getElem?_eq_some_iff.1 hx).1
  exact ⟨ps[i], List.getElem?_eq_getElem hi, h.2 i _ x (List.getElem?_eq_getElem hi) hx⟩
theorem RdP.nil (w : World) (B : Nat) : RdP w B (.slice none 0 0) [] := ⟨[], RdV.nil _ _ _, DeepP.nil w B⟩
theorem RdP.below (h : RdP w B v ls) (hb : Below B w w') : RdP w' B v ls := by
  obtain ⟨ps, h1, h2⟩ := h; exact ⟨ps, h1.below hb, h2.below hb⟩
theorem RdP.more (h : RdP w B v ls) (hB : B ≤ B') : RdP w B' v ls := by
  obtain ⟨ps, h1, h2⟩ := h; exact ⟨ps, h1.more hB, h2.more hB⟩
theorem RdP.step (h : RdP w w.heap.size v ls) (hb : Below w.heap.size w w') : RdP w' w'.heap.size v ls := (h.below hb).more hb.size
theorem RdP.bds (h : RdP w B v ls) : ∃ A c n, v = .slice A n c ∧ n = ls.length ∧ n ≤ c ∧ c ≤ 9223372036854775807 := by
  obtain ⟨ps, h1, h2⟩ := h
  obtain ⟨A, c, e, h3, h4, _⟩ := h1
  exact ⟨A, c, ps.length, e, h2.1, h3, h4⟩
theorem RdLL.bds (h : RdLL w B v lv) : ∃ A c n, v = .slice A n c ∧ n = lv.length ∧ n ≤ c ∧ c ≤ 9223372036854775807 := by
  obtain ⟨ps, h1, h2⟩ := h
  obtain ⟨A, c, e, h3, h4, _⟩ := h1
  exact ⟨A, c, ps.length, e, h2.1, h3, h4⟩
/-- List i: its slice's cell, and that it can be read. -/
theorem RdP.at (h : RdP w B (.slice A n c) ls) {x : List Rc} (hr : ls[i]? = some x) : ∃ ad rA rn rc, A = some ad ∧ ad.block < B ∧ w.cell? (ad.add i) = some (.slice rA rn rc) ∧ RdR w B (.slice rA rn rc) x := by
  obtain ⟨ps, h1, h2⟩ := h
  obtain ⟨⟨rA, rn, rc⟩, hp, hd⟩ := h2.get hr
  obtain ⟨A', c', he, _, _, ha⟩ := h1
  cases he
  obtain ⟨ad, e, hb, ha⟩ := ha i _ hp
  exact ⟨ad, rA, rn, rc, e, hb, ha, hd⟩
theorem RdLL.at (h : RdLL w B (.slice A n c) lv) {x : List Vl} (hr : lv[i]? = some x) : ∃ ad rA rn rc, A = some ad ∧ ad.block < B ∧ w.cell? (ad.add i) = some (.slice rA rn rc) ∧ RdL w B (.slice rA rn rc) x := by
  obtain ⟨ps, h1, h2⟩ := h
  obtain ⟨⟨rA, rn, rc⟩, hp, hd⟩ := h2.get hr
  obtain ⟨A', c', he, _, _, ha⟩ := h1
  cases he
  obtain ⟨ad, e, hb, ha⟩ := ha i _ hp
  exact ⟨ad, rA, rn, rc, e, hb, ha, hd⟩
end
end Go.RS
namespace Go.Proofs.Ytjbkeipagdmlpaa
open Go.RowKit Go.VB Go.VS Go.MK Go.RS
set_option linter.constructorNameAsVariable false
set_option maxRecDepth 100000 in
set_option maxHeartbeats 400000 in
theorem same_v (x y : Value) (l m : List Vl) (w : World) (hx : RdL w w.heap.size x l) (hy : RdL w w.heap.size y m) : Calls Try.prog 52 #[x, y] w (SameP (l = m) w) := by
  obtain ⟨A, c, k1, rfl, rfl, hc1, hc2⟩ := hx.bds
  obtain ⟨A', c', k2, rfl, rfl, hd1, hd2⟩ := hy.bds
  have HX := Lib.hid hx; have HY := Lib.hid hy; clear hx hy
  go_enter Try.func52, Try.ntmps52
  by_cases hlen : l.length = m.length
  case neg =>
    go_wp2
    go_ret
    exact SameP.no rfl (fun h => hlen (by rw [h])) (Below.refl _ _)
  rw [hlen]
  go_wp2
  go_loopw [13] (fun i wr => ∃ j : Nat, i = .int .i64 j ∧ j ≤ m.length ∧ (∀ i < j, l[i]? = m[i]?) ∧ Below w.heap.size w wr) (fun i _ => m.length - (intOf i).toNat)
  case atStart => exact ⟨0, rfl, Nat.zero_le _, fun i hi => absurd hi (by omega), Below.refl _ _⟩
  case round =>
    obtain ⟨j, rfl, hj, hall, hbel⟩ := hrel
    have HA := Lib.hid hall; clear hall
    by_cases hlt : j < m.length
    · have hl1 : l[j]? = some l[j] := List.getElem?_eq_getElem (by omega)
      have hl2 : m[j]? = some m[j] := List.getElem?_eq_getElem hlt
      obtain ⟨ad, rfl, _, q0, q1, q2⟩ := (HX.out.below hbel).at hl1
      obtain ⟨ad', rfl, _, p0, p1, p2⟩ := (HY.out.below hbel).at hl2
      have HE1 := Lib.hid hl1; have HE2 := Lib.hid hl2; clear hl1 hl2
      generalize l[j] = V at HE1 q0 q1 q2
      generalize m[j] = U at HE2 p0 p1 p2
      obtain ⟨vb, vn, vs⟩ := V
      obtain ⟨ub, un, us⟩ := U
      have hno : ¬ (⟨vb, vn, vs⟩ : Vl) = ⟨ub, un, us⟩ → ¬ l = m := fun h1 h2 => h1 (by have := HE1.out; rw [h2, HE2.out] at this; injection this with h3; exact h3.symm)
      have HN := Lib.hid hno; clear hno
      simp only at q0 q1 q2 p0 p1 p2
      rcases vl_ways ⟨vb, vn, vs⟩ ⟨ub, un, us⟩ with he | ⟨h1, h2⟩ | ⟨h1, h2⟩ | ⟨h1, h2⟩ | ⟨h1, h2, h3⟩
      case inl =>
        injection he with e1 e2 e3
        subst e1 e2 e3
        have hall' : ∀ i < j + 1, l[i]? = m[i]? := fun i hi => by
          by_cases h : i = j
          · rw [h, HE1.out, HE2.out]
          · exact HA.out i (by omega)
        have HA' := Lib.hid hall'; clear hall'
        go_wp2_with fail
        go_region
        go_wp2_with fail
        go_roundw
        case rel => exact ⟨j + 1, by go_num, hlt, HA'.out, hbel.drew⟩
        case measure => simp [intOf] <;> omega
      all_goals simp only at h1 h2
      all_goals subst h1
      all_goals try subst h2
      all_goals go_wp2_with fail
      all_goals go_region
      all_goals go_wp2_with fail
      all_goals go_ret
      all_goals exact SameP.no rfl (HN.out (by intro h; injection h; simp_all)) hbel.drew
    · go_wp2
      go_ret
      exact SameP.yes rfl (List.ext_getElem? fun i => by
        by_cases hi : i < j
        · exact HA.out i hi
        · rw [List.getElem?_eq_none (by omega), List.getElem?_eq_none (by omega)]) hbel
set_option maxRecDepth 100000 in
set_option maxHeartbeats 400000 in
theorem same_rec (a b : Rc) (x y : Value) (w : World) (hx : RdL w w.heap.size x a.row) (hy : RdL w w.heap.size y b.row) : Calls Try.prog 30 #[.agg #[.int .i64 a.seq, x], .agg #[.int .i64 b.seq, y]] w (SameP (a = b) w) := by
  obtain ⟨an, al⟩ := a; obtain ⟨bn, bl⟩ := b
  simp only at hx hy ⊢
  have HS := fun w' (h : Below w.heap.size w w') => Lib.hid (same_v x y al bl w' (hx.step h) (hy.step h))
  have hb2 : ∀ u v : Obj, Below w.heap.size w ((w.alloc u).alloc v) := fun u v => ((Below.refl _ _).alloc (Nat.le_refl _) u).alloc (by simp) v
  have hsz : ∀ u v : Obj, w.heap.size ≤ ((w.alloc u).alloc v).heap.size := fun u v => by simp; omega
  clear hx hy
  go_enter Try.func30, Try.ntmps30
  by_cases hn : an = bn
  · subst hn
    go_wp2_with (first | ((with_reducible refine (HS _ (hb2 _ _)).out.mono ?_); rintro e w1 ⟨b, rfl, hb, hbel⟩; have hbel := (hb2 _ _).trans (hbel.mono (hsz _ _)); cases b) | fail)
    all_goals go_wp2
    all_goals go_ret
    · exact SameP.no rfl (fun h => by injection h with _ h2; simp [h2] at hb) hbel
    · exact SameP.yes rfl (by rw [hb.1 trivial]) hbel
  · go_wp2
    go_ret
    exact SameP.no rfl (fun h => by injection h with h1; exact hn h1) (hb2 _ _)
set_option maxRecDepth 100000 in
set_option maxHeartbeats 400000 in
theorem same_recs (x y : Value) (l m : List Rc) (w : World) (hx : RdR w w.heap.size x l) (hy : RdR w w.heap.size y m) : Calls Try.prog 27 #[x, y] w (SameP (l = m) w) := by
  obtain ⟨A, c, k1, rfl, rfl, hc1, hc2⟩ := hx.bds
  obtain ⟨A', c', k2, rfl, rfl, hd1, hd2⟩ := hy.bds
  have HX := Lib.hid hx; have HY := Lib.hid hy; clear hx hy
  go_enter Try.func27, Try.ntmps27
  by_cases hlen : l.length = m.length
  case neg =>
    go_wp2
    go_ret
    exact SameP.no rfl (fun h => hlen (by rw [h])) (Below.refl _ _)
  rw [hlen]
  go_wp2
  go_loopw [13] (fun i wr => ∃ j : Nat, i = .int .i64 j ∧ j ≤ m.length ∧ (∀ i < j, l[i]? = m[i]?) ∧ Below w.heap.size w wr) (fun i _ => m.length - (intOf i).toNat)
  case atStart => exact ⟨0, rfl, Nat.zero_le _, fun i hi => absurd hi (by omega), Below.refl _ _⟩
  case round =>
    obtain ⟨j, rfl, hj, hall, hbel⟩ := hrel
    have HA := Lib.hid hall; clear hall
    by_cases hlt : j < m.length
    · have hl1 : l[j]? = some l[j] := List.getElem?_eq_getElem (by omega)
      have hl2 : m[j]? = some m[j] := List.getElem?_eq_getElem hlt
      obtain ⟨ad, rA, rn, rc, rfl, _, q0, q1, qn, qr⟩ := (HX.out.below hbel).at hl1
      obtain ⟨ad', sA, sn, sc, rfl, _, p0, p1, pn, pr⟩ := (HY.out.below hbel).at hl2
      have HE1 := Lib.hid hl1; have HE2 := Lib.hid hl2; clear hl1 hl2 qn pn
      generalize l[j] = V at HE1 q0 q1 qr
      generalize m[j] = U at HE2 p0 p1 pr
      have hno : ¬ V = U → ¬ l = m := fun h1 h2 => h1 (by have := HE1.out; rw [h2, HE2.out] at this; injection this with h3; exact h3.symm)
      have hyes : V = U → ∀ i < j + 1, l[i]? = m[i]? := fun he i hi => by
        by_cases h : i = j
        · rw [h, HE1.out, HE2.out, he]
        · exact HA.out i (by omega)
      have HN := Lib.hid hno; have HYS := Lib.hid hyes; clear hno hyes
      have hQ := Lib.hid (same_rec V U _ _ wr.drew (qr.more hbel.size |>.step (Below.refl _ _).drew) (pr.more hbel.size |>.step (Below.refl _ _).drew))
      clear qr pr
      go_wp2_with fail
      go_region_with (first | ((with_reducible refine hQ.out.mono ?_); rintro e w1 ⟨b, rfl, hb, hbel1⟩; have hbel2 := bel_trans hbel.drew hbel1; clear hbel1) | fail)
      all_goals cases b
      all_goals go_wp2_with fail
      all_goals first
        | (go_ret; exact SameP.no rfl (HN.out (fun h => by simpa using hb.2 h)) hbel2)
        | (have h1 := Lib.hid (HYS.out (hb.1 rfl)); clear hb; go_roundw; (case rel => exact ⟨j + 1, by go_num, hlt, h1.out, hbel2⟩); (case measure => simp [intOf] <;> omega))
    · go_wp2
      go_ret
      exact SameP.yes rfl (List.ext_getElem? fun i => by
        by_cases hi : i < j
        · exact HA.out i hi
        · rw [List.getElem?_eq_none (by omega), List.getElem?_eq_none (by omega)]) hbel
set_option maxRecDepth 100000 in
set_option maxHeartbeats 400000 in
theorem same_lists (x y : Value) (l m : List (List Vl)) (w : World) (hx : RdLL w w.heap.size x l) (hy : RdLL w w.heap.size y m) : Calls Try.prog 34 #[x, y] w (SameP (l = m) w) := by
  obtain ⟨A, c, k1, rfl, rfl, hc1, hc2⟩ := hx.bds
  obtain ⟨A', c', k2, rfl, rfl, hd1, hd2⟩ := hy.bds
  have HX := Lib.hid hx; have HY := Lib.hid hy; clear hx hy
  go_enter Try.func34, Try.ntmps34
  by_cases hlen : l.length = m.length
  case neg =>
    go_wp2
    go_ret
    exact SameP.no rfl (fun h => hlen (by rw [h])) (Below.refl _ _)
  rw [hlen]
  go_wp2
  go_loopw [13] (fun i wr => ∃ j : Nat, i = .int .i64 j ∧ j ≤ m.length ∧ (∀ i < j, l[i]? = m[i]?) ∧ Below w.heap.size w wr) (fun i _ => m.length - (intOf i).toNat)
  case atStart => exact ⟨0, rfl, Nat.zero_le _, fun i hi => absurd hi (by omega), Below.refl _ _⟩
  case round =>
    obtain ⟨j, rfl, hj, hall, hbel⟩ := hrel
    have HA := Lib.hid hall; clear hall
    by_cases hlt : j < m.length
    · have hl1 : l[j]? = some l[j] := List.getElem?_eq_getElem (by omega)
      have hl2 : m[j]? = some m[j] := List.getElem?_eq_getElem hlt
      obtain ⟨ad, rA, rn, rc, rfl, _, q0, qr⟩ := (HX.out.below hbel).at hl1
      obtain ⟨ad', sA, sn, sc, rfl, _, p0, pr⟩ := (HY.out.below hbel).at hl2
      have HE1 := Lib.hid hl1; have HE2 := Lib.hid hl2; clear hl1 hl2
      generalize l[j] = V at HE1 qr
      generalize m[j] = U at HE2 pr
      have hno : ¬ V = U → ¬ l = m := fun h1 h2 => h1 (by have := HE1.out; rw [h2, HE2.out] at this; injection this with h3; exact h3.symm)
      have hyes : V = U → ∀ i < j + 1, l[i]? = m[i]? := fun he i hi => by
        by_cases h : i = j
        · rw [h, HE1.out, HE2.out, he]
        · exact HA.out i (by omega)
      have HN := Lib.hid hno; have HYS := Lib.hid hyes; clear hno hyes
      have hQ := Lib.hid (same_v _ _ V U wr.drew (qr.more hbel.size |>.step (Below.refl _ _).drew) (pr.more hbel.size |>.step (Below.refl _ _).drew))
      clear qr pr
      go_wp2_with fail
      go_region_with (first | ((with_reducible refine hQ.out.mono ?_); rintro e w1 ⟨b, rfl, hb, hbel1⟩; have hbel2 := bel_trans hbel.drew hbel1; clear hbel1) | fail)
      all_goals cases b
      all_goals go_wp2_with fail
      all_goals first
        | (go_ret; exact SameP.no rfl (HN.out (fun h => by simpa using hb.2 h)) hbel2)
        | (have h1 := Lib.hid (HYS.out (hb.1 rfl)); clear hb; go_roundw; (case rel => exact ⟨j + 1, by go_num, hlt, h1.out, hbel2⟩); (case measure => simp [intOf] <;> omega))
    · go_wp2
      go_ret
      exact SameP.yes rfl (List.ext_getElem? fun i => by
        by_cases hi : i < j
        · exact HA.out i hi
        · rw [List.getElem?_eq_none (by omega), List.getElem?_eq_none (by omega)]) hbel
set_option maxRecDepth 100000 in
set_option maxHeartbeats 400000 in
theorem same_parts (x y : Value) (l m : List (List Rc)) (w : World) (hx : RdP w w.heap.size x l) (hy : RdP w w.heap.size y m) : Calls Try.prog 32 #[x, y] w (SameP (l = m) w) := by
  obtain ⟨A, c, k1, rfl, rfl, hc1, hc2⟩ := hx.bds
  obtain ⟨A', c', k2, rfl, rfl, hd1, hd2⟩ := hy.bds
  have HX := Lib.hid hx; have HY := Lib.hid hy; clear hx hy
  go_enter Try.func32, Try.ntmps32
  by_cases hlen : l.length = m.length
  case neg =>
    go_wp2
    go_ret
    exact SameP.no rfl (fun h => hlen (by rw [h])) (Below.refl _ _)
  rw [hlen]
  go_wp2
  go_loopw [13] (fun i wr => ∃ j : Nat, i = .int .i64 j ∧ j ≤ m.length ∧ (∀ i < j, l[i]? = m[i]?) ∧ Below w.heap.size w wr) (fun i _ => m.length - (intOf i).toNat)
  case atStart => exact ⟨0, rfl, Nat.zero_le _, fun i hi => absurd hi (by omega), Below.refl _ _⟩
  case round =>
    obtain ⟨j, rfl, hj, hall, hbel⟩ := hrel
    have HA := Lib.hid hall; clear hall
    by_cases hlt : j < m.length
    · have hl1 : l[j]? = some l[j] := List.getElem?_eq_getElem (by omega)
      have hl2 : m[j]? = some m[j] := List.getElem?_eq_getElem hlt
      obtain ⟨ad, rA, rn, rc, rfl, _, q0, qr⟩ := (HX.out.below hbel).at hl1
      obtain ⟨ad', sA, sn, sc, rfl, _, p0, pr⟩ := (HY.out.below hbel).at hl2
      have HE1 := Lib.hid hl1; have HE2 := Lib.hid hl2; clear hl1 hl2
      generalize l[j] = V at HE1 qr
      generalize m[j] = U at HE2 pr
      have hno : ¬ V = U → ¬ l = m := fun h1 h2 => h1 (by have := HE1.out; rw [h2, HE2.out] at this; injection this with h3; exact h3.symm)
      have hyes : V = U → ∀ i < j + 1, l[i]? = m[i]? := fun he i hi => by
        by_cases h : i = j
        · rw [h, HE1.out, HE2.out, he]
        · exact HA.out i (by omega)
      have HN := Lib.hid hno; have HYS := Lib.hid hyes; clear hno hyes
      have hQ := Lib.hid (same_recs _ _ V U wr.drew (qr.more hbel.size |>.step (Below.refl _ _).drew) (pr.more hbel.size |>.step (Below.refl _ _).drew))
      clear qr pr
      go_wp2_with fail
      go_region_with (first | ((with_reducible refine hQ.out.mono ?_); rintro e w1 ⟨b, rfl, hb, hbel1⟩; have hbel2 := bel_trans hbel.drew hbel1; clear hbel1) | fail)
      all_goals cases b
      all_goals go_wp2_with fail
      all_goals first
        | (go_ret; exact SameP.no rfl (HN.out (fun h => by simpa using hb.2 h)) hbel2)
        | (have h1 := Lib.hid (HYS.out (hb.1 rfl)); clear hb; go_roundw; (case rel => exact ⟨j + 1, by go_num, hlt, h1.out, hbel2⟩); (case measure => simp [intOf] <;> omega))
    · go_wp2
      go_ret
      exact SameP.yes rfl (List.ext_getElem? fun i => by
        by_cases hi : i < j
        · exact HA.out i hi
        · rw [List.getElem?_eq_none (by omega), List.getElem?_eq_none (by omega)]) hbel
end Go.Proofs.Ytjbkeipagdmlpaa
