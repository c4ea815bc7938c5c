/- One name changed: the schema stays valid, its Id changes; SameSchema tells. -/
import Derived.Test.YtfkdenlpailmeaaDoorSchH
import Derived.BigQuiet
namespace Go.SC
open Go.RowKit Go.VB Go.VL Go.CR
def yS : ByteArray := ⟨#[121]⟩
/-- The columns with column p named y. -/
def setY (cs : List Col) (p : Nat) : List Col := cs.set p ⟨yS, (cs.getD p col0).ty, (cs.getD p col0).sc, (cs.getD p col0).nu⟩
theorem setY_len (cs : List Col) (p : Nat) : (setY cs p).length = cs.length := List.length_set
theorem setY_same {cs : List Col} {p : Nat} (hp : p < cs.length) : (setY cs p).getD p col0 = ⟨yS, (cs.getD p col0).ty, (cs.getD p col0).sc, (cs.getD p col0).nu⟩ := by
  unfold setY
  rw [List.getD_eq_getElem?_getD, List.getElem?_set_self hp]; rfl
theorem setY_other {cs : List Col} {p i : Nat} (h : i ≠ p) : (setY cs p).getD i col0 = cs.getD i col0 := by
  unfold setY
  rw [List.getD_eq_getElem?_getD, List.getElem?_set_ne (fun e => h e.symm), ← List.getD_eq_getElem?_getD]
theorem setY_back {cs : List Col} {p : Nat} (hp : p < cs.length) : (setY cs p).set p (cs.getD p col0) = cs := by
  unfold setY
  rw [List.set_set, List.getD_eq_getElem?_getD, List.getElem?_eq_getElem hp]
  exact List.set_getElem_self hp
theorem y_name : nameS yS = true := by decide +kernel
theorem k_ne_y (n : Nat) (h : n < 4) : str [UInt8.ofNat (97 + n)] ≠ yS := by
  match n, h with
  | 0, _ => decide
  | 1, _ => decide
  | 2, _ => decide
  | 3, _ => decide
theorem setY_chk {cs : List Col} {key : Int} {p : Nat} (h : KOK cs key) (hp : p < cs.length) : chkS (setY cs p) key = 0 := by
  obtain ⟨h1, h4, hk, k0, k1⟩ := h
  rw [chkS_end (by rw [setY_len]; omega) (by rw [setY_len]; omega), if_neg (by rw [setY_len]; omega)]
  intro i hi
  rw [setY_len] at hi
  obtain ⟨a, b, c, d, e⟩ := hk i hi
  have hnm : ∀ j, j < cs.length → ((setY cs p).getD j col0).nm = if j = p then yS else str [UInt8.ofNat (97 + (cs.length - 1 - j))] := fun j hj => by
    by_cases hjp : j = p
    · rw [if_pos hjp, hjp, setY_same hp]
    · rw [if_neg hjp, setY_other hjp]; exact (hk j hj).1
  have hrest : ((setY cs p).getD i col0).ty = (cs.getD i col0).ty ∧ ((setY cs p).getD i col0).sc = (cs.getD i col0).sc := by
    by_cases hip : i = p
    · rw [hip, setY_same hp]; exact ⟨rfl, rfl⟩
    · rw [setY_other hip]; exact ⟨rfl, rfl⟩
  have hn : nameS ((setY cs p).getD i col0).nm = true := by
    rw [hnm i hi]
    split
    · exact y_name
    · exact kname _ (by omega)
  rw [chkCol_scale hn ?_ (by rw [hrest.1]; exact b), hrest.1, hrest.2, if_neg (by omega)]
  rintro ⟨j, hj, he⟩
  rw [hnm i hi, hnm j (by omega)] at he
  by_cases h1 : j = p <;> by_cases h2 : i = p
  · omega
  · rw [if_pos h1, if_neg h2] at he; exact k_ne_y _ (by omega) he.symm
  · rw [if_neg h1, if_pos h2] at he; exact k_ne_y _ (by omega) he
  · rw [if_neg h1, if_neg h2] at he
    have := kname_ne (by omega) (by omega) he
    omega
theorem typL_two {ty sc : Int} (h : okT ty = true) : ∃ a b r, typL ty sc = a :: b :: r := by
  rcases okT_five h with rfl | rfl | rfl | rfl | rfl <;> exact ⟨_, _, _, rfl⟩
theorem txC_cut {cs : List Col} {p : Nat} (hp : p < cs.length) : txC cs = txC (cs.take p) ++ (colL (cs.getD p col0) ++ [10]) ++ txC (cs.drop (p + 1)) := by
  have h : cs = cs.take (p + 1) ++ cs.drop (p + 1) := (List.take_append_drop _ _).symm
  conv => lhs; rw [h]
  rw [← txC_snoc hp]
  unfold txC
  rw [List.flatMap_append]
theorem setY_id {cs : List Col} {key : Int} {p : Nat} (h : KOK cs key) (hp : p < cs.length) (hne : key ≠ p) : IDN cs key ≠ IDN (setY cs p) key := by
  have hc1 := kok_chk h
  have hc2 := setY_chk h hp
  obtain ⟨h1, h4, hk, k0, k1⟩ := h
  rw [IDN_ok hc1, IDN_ok hc2]
  intro he
  obtain ⟨a, b, c, d, e⟩ := hk p hp
  obtain ⟨t1, t2, tr, htr⟩ := typL_two (sc := (cs.getD p col0).sc) b
  have hkey : (setY cs p).getD key.toNat col0 = cs.getD key.toNat col0 := setY_other (by omega)
  have e1 : fmtL cs key = txC (cs.take p) ++ [UInt8.ofNat (97 + (cs.length - 1 - p)), 32, t1, t2] ++ (tr ++ nulL (cs.getD p col0).nu ++ [10] ++ txC (cs.drop (p + 1)) ++ (keyL ++ 32 :: ((cs.getD key.toNat col0).nm.data.toList ++ [10]))) := by
    unfold fmtL
    rw [txC_cut hp]
    unfold colL
    rw [a, str_toList, htr]
    simp
  have e2 : fmtL (setY cs p) key = txC (cs.take p) ++ [121, 32, t1, t2] ++ (tr ++ nulL (cs.getD p col0).nu ++ [10] ++ txC (cs.drop (p + 1)) ++ (keyL ++ 32 :: ((cs.getD key.toNat col0).nm.data.toList ++ [10]))) := by
    unfold fmtL
    rw [txC_cut (by rw [setY_len]; exact hp), hkey, setY_same hp]
    have ht : (setY cs p).take p = cs.take p := by unfold setY; rw [List.take_set]; rw [List.set_eq_of_length_le (by rw [List.length_take]; omega)]
    have hd : (setY cs p).drop (p + 1) = cs.drop (p + 1) := by unfold setY; rw [List.drop_set_of_lt (by omega)]
    rw [ht, hd]
    unfold colL
    simp only
    rw [htr]
    simp [yS]
  rw [e1, e2] at he
  have hb := sum_burst _ _ rfl rfl he
  have h2 : UInt8.ofNat (97 + (cs.length - 1 - p)) = 121 := by
    injection hb
  exact k_ne_y (cs.length - 1 - p) (by omega) (by rw [h2]; rfl)
end Go.SC
namespace Go.Proofs.YtfkdenlpailmeaaDoor
open Go.RowKit Go.VB Go.VL Go.SC
set_option linter.constructorNameAsVariable false
set_option maxRecDepth 100000 in
set_option maxHeartbeats 2000000 in
theorem sameC_ne (x y : Value) (cs ds : List Col) (p B : Nat) (w : World) (hx : RdC w B x cs) (hy : RdC w B y ds) (hB : B ≤ w.heap.size) (hl : ds.length = cs.length) (hp : p < cs.length)
    (he : ∀ i, i < p → ds.getD i col0 = cs.getD i col0) (hne : ¬ (cs.getD p col0).nm = (ds.getD p col0).nm) :
    Calls Tryd.prog 31 #[x, y] w (RetB (.bool false) w) := by
  obtain ⟨A, c, rfl, hc1, hc2, hx'⟩ := id hx
  obtain ⟨A', c', rfl, hd1, hd2, hy'⟩ := id hy
  clear hx' hy'
  rw [hl] at hd1 hy
  unfold maxLen at hc2 hd2
  have HX := Lib.hid hx; have HY := Lib.hid hy; clear hx hy
  have HE := Lib.hid he; have HN := Lib.hid hne; have HL := Lib.hid hl
  rw [hl]
  clear he hne hl
  go_enter Tryd.func31, Tryd.ntmps31
  go_wp2
  go_loopw [4, 5, 13] (fun r _ i wr => ∃ j : Nat, r = .bool false ∧ i = .int .i64 j ∧ j ≤ p ∧ Below w.heap.size w wr) (fun _ _ i _ => cs.length - (intOf i).toNat)
  case atStart => exact ⟨0, rfl, rfl, Nat.zero_le _, Below.refl _ _⟩
  case round =>
    obtain ⟨j, rfl, rfl, hj, hbel⟩ := hrel
    have hlt : j < cs.length := by omega
    obtain ⟨_, _, hv1, _, _, hcx⟩ := HX.out.below (hbel.mono hB)
    cases hv1
    obtain ⟨ad, rfl, _, ⟨x0, x1, x2, x3⟩⟩ := hcx j hlt
    obtain ⟨_, _, hv2, _, _, hcy⟩ := HY.out.below (hbel.mono hB)
    injection hv2 with a1 a2 a3
    subst a1; subst a3
    obtain ⟨ad', rfl, _, ⟨y0, y1, y2, y3⟩⟩ := hcy j (by rw [HL.out]; exact hlt)
    clear hcx hcy a2
    by_cases hjp : j = p
    · have hn := HN.out
      rw [← hjp] at hn
      clear HN HE HX HY HL
      generalize cs.getD j col0 = V at *
      generalize ds.getD j col0 = U at *
      obtain ⟨nm, ty, sc, nu⟩ := V
      obtain ⟨nm', ty', sc', nu'⟩ := U
      simp only at x0 x1 x2 x3 y0 y1 y2 y3 hn
      have hs : (nm.toList == nm'.toList) = false := by
        rw [beq_eq_false_iff_ne, ByteArray.toList_eq, ByteArray.toList_eq]
        intro e; exact hn (ByteArray.ext (Array.toList_inj.1 e))
      clear hn
      obtain rfl : j = p := hjp
      go_wp2_with fail
      go_quiet (fail)
      go_wp2_with fail
      go_ret
      exact RetB.mk rfl (Go.below_drewN hbel nq)
    · have hee := HE.out j (by omega)
      clear HN HE HX HY HL
      rw [hee] at y0 y1 y2 y3
      clear hee
      generalize cs.getD j col0 = V at *
      obtain ⟨nm, ty, sc, nu⟩ := V
      simp only at x0 x1 x2 x3 y0 y1 y2 y3
      go_wp2_with fail
      go_quiet (fail)
      go_wp2_with fail
      go_roundw
      case rel => exact ⟨j + 1, rfl, by go_num, by omega, Go.below_drewN hbel nq⟩
      case measure => simp [intOf] <;> omega
set_option maxRecDepth 100000 in
set_option maxHeartbeats 2000000 in
theorem sameS_ne (x y : Value) (key : Int) (cs ds : List Col) (p : Nat) (w : World) (hx : RdC w w.heap.size x cs) (hy : RdC w w.heap.size y ds) (hl : ds.length = cs.length) (hp : p < cs.length)
    (he : ∀ i, i < p → ds.getD i col0 = cs.getD i col0) (hne : ¬ (cs.getD p col0).nm = (ds.getD p col0).nm) :
    Calls Tryd.prog 18 #[.agg #[x, .int .i64 key], .agg #[y, .int .i64 key]] w (RetB (.bool false) w) := by
  have hb : Below w.heap.size w ((w.alloc (.cells #[x, .int .i64 key] 24)).alloc (.cells #[y, .int .i64 key] 24)) := ((Below.refl _ _).alloc (Nat.le_refl _) _).alloc (by simp) _
  have HS := Lib.hid (sameC_ne x y cs ds p w.heap.size _ (hx.below hb) (hy.below hb) hb.size hl hp he hne)
  have e : (key == key) = true := beq_self_eq_true _
  obtain ⟨A, c, rfl, _⟩ := hx
  obtain ⟨A', c', rfl, _⟩ := hy
  clear hl hp he hne
  go_enter Tryd.func18, Tryd.ntmps18
  go_wp2_with fail
  refine HS.out.mono ?_
  rintro e w1 ⟨rfl, hb1⟩
  go_wp2_with fail
  go_ret
  exact RetB.mk rfl (hb.trans (hb1.mono hb.size))
end Go.Proofs.YtfkdenlpailmeaaDoor
