/- The walks over the parts of a line: isWord, parseKey, typeOfWord, isScale, numberOf, parseType. -/
import Derived.Test.YtfkdenlpailmeaaDoorSchC
namespace Go.SC
open Go.RowKit Go.VB Go.VL
instance (n : List UInt8) : Decidable (isW n) := by unfold isW; infer_instance
theorem str_nil : str [] = ⟨#[]⟩ := rfl
theorem str_full {l : List UInt8} (h : l ≠ []) : (str l).toList.isEmpty = false := by
  rw [ByteArray.toList_eq, str_toList]
  cases l with
  | nil => exact absurd rfl h
  | cons _ _ => rfl
theorem str_ne {l m : List UInt8} (h : l ≠ m) : ((str l).toList == m) = false := by
  rw [ByteArray.toList_eq, str_toList]; exact beq_eq_false_iff_ne.2 h
/-- A name and whether there is one; what was there is as it was. -/
def PKey (l : List UInt8) (w : World) : Ending → World → Prop := fun e w' => Below w.heap.size w w' ∧
  ((∃ n, isKey l n ∧ e = .returned (.tuple #[.string (str n), .bool true])) ∨ ((¬ ∃ n, isKey l n) ∧ e = .returned (.tuple #[.string ⟨#[]⟩, .bool false])))
theorem PKey.yes {l n : List UInt8} {w w' : World} {v : Value} (h : isKey l n) (hv : v = .tuple #[.string (str n), .bool true]) (hb : Below w.heap.size w w') : PKey l w (.returned v) w' := ⟨hb, .inl ⟨n, h, by rw [hv]⟩⟩
theorem PKey.no {l : List UInt8} {w w' : World} {v : Value} (h : ¬ ∃ n, isKey l n) (hv : v = .tuple #[.string ⟨#[]⟩, .bool false]) (hb : Below w.heap.size w w') : PKey l w (.returned v) w' := ⟨hb, .inr ⟨h, by rw [hv]⟩⟩
theorem not_key_miss {l : List UInt8} (h : 32 ∉ l) : ¬ ∃ n, isKey l n := by
  rintro ⟨n, _, rfl⟩
  exact h (by simp)
theorem key_hit {a r n : List UInt8} (ha : 32 ∉ a) (h : isKey (a ++ 32 :: r) n) : a = keyL ∧ r = n := cut_inj ha (by decide) h.2
/-- The type of a word; 0 for another word. -/
def tyOf (l : List UInt8) : Int := if l = twL 1 then 1 else if l = twL 2 then 2 else if l = twL 3 then 3 else if l = twL 4 then 4 else if l = twL 5 then 5 else 0
theorem tyOf_tw {ty : Int} (h : okT ty = true) : tyOf (twL ty) = ty := by
  rcases okT_five h with rfl | rfl | rfl | rfl | rfl <;> decide
theorem tyOf_in {l : List UInt8} (h : tyOf l ≠ 0) : okT (tyOf l) = true ∧ l = twL (tyOf l) := by
  unfold tyOf at *
  split at h
  · next e => rw [if_pos e]; exact ⟨by decide, e⟩
  · next e1 =>
    rw [if_neg e1]
    split at h
    · next e => rw [if_pos e]; exact ⟨by decide, e⟩
    · next e2 =>
      rw [if_neg e2]
      split at h
      · next e => rw [if_pos e]; exact ⟨by decide, e⟩
      · next e3 =>
        rw [if_neg e3]
        split at h
        · next e => rw [if_pos e]; exact ⟨by decide, e⟩
        · next e4 =>
          rw [if_neg e4]
          split at h
          · next e => rw [if_pos e]; exact ⟨by decide, e⟩
          · exact absurd rfl h
/-- l is a number of at most two digits without leading zeros, reckoned. -/
def scB (l : List UInt8) : Bool := (List.range l.length).all (fun i => digN (l.getD i 0).toNat) && (decide (l = [48]) || (decide (l ≠ []) && decide ((l.getD 0 0).toNat ≠ 48) && decide (l.length ≤ 2)))
theorem all_dig {l : List UInt8} (h : ∀ i, i < l.length → digN (l.getD i 0).toNat = true) : ∀ b ∈ l, 48 ≤ b.toNat ∧ b.toNat ≤ 57 := by
  intro b hb
  obtain ⟨i, hi, rfl⟩ := List.getElem_of_mem hb
  have := h i hi
  rw [List.getD_eq_getElem?_getD, List.getElem?_eq_getElem hi] at this
  exact of_decide_eq_true this
theorem scB_iff (l : List UInt8) : scB l = true ↔ isSc l := by
  unfold scB
  constructor
  · intro h
    obtain ⟨h1, h2⟩ := Bool.and_eq_true_iff.1 h
    have hd := all_dig (fun i hi => List.all_eq_true.1 h1 i (List.mem_range.2 hi))
    rcases Bool.or_eq_true_iff.1 h2 with h3 | h3
    · have := of_decide_eq_true h3
      exact ⟨0, by decide, this⟩
    · obtain ⟨h4, h5⟩ := Bool.and_eq_true_iff.1 h3
      obtain ⟨h6, h7⟩ := Bool.and_eq_true_iff.1 h4
      have hne := of_decide_eq_true h6
      have h8 := of_decide_eq_true h7
      refine isSc_of hd ?_ (of_decide_eq_true h5) (.inr fun e => h8 (by rw [e]; rfl))
      cases l with
      | nil => exact absurd rfl hne
      | cons _ _ => simp
  · rintro ⟨n, hn, rfl⟩
    have hd := scL_dig hn
    have hl := scL_len hn
    have hlead := scL_lead hn
    generalize scL n = l at *
    rw [Bool.and_eq_true_iff]
    constructor
    · rw [List.all_eq_true]
      intro i hi
      have hi' := List.mem_range.1 hi
      have := hd (l.getD i 0) (by rw [List.getD_eq_getElem?_getD, List.getElem?_eq_getElem hi']; exact List.getElem_mem hi')
      exact decide_eq_true this
    · rcases hlead with h | h
      · rw [decide_eq_true h, Bool.true_or]
      · have h0 : (l.getD 0 0).toNat ≠ 48 := fun e => h (by rw [byte_of e]; rfl)
        have hne : l ≠ [] := by intro e; rw [e] at hl; simp at hl
        rw [decide_eq_true h0, decide_eq_true hl.2, decide_eq_true hne]; simp
theorem scB_bad {l : List UInt8} {i : Nat} (hi : i < l.length) (h : digN (l.getD i 0).toNat = false) : scB l = false := by
  cases hs : scB l with
  | false => rfl
  | true =>
    unfold scB at hs
    have := List.all_eq_true.1 (Bool.and_eq_true_iff.1 hs).1 i (List.mem_range.2 hi)
    rw [h] at this; cases this
theorem scB_end {l : List UInt8} (h : ∀ i, i < l.length → digN (l.getD i 0).toNat = true) : scB l = (decide (l = [48]) || (decide (l ≠ []) && decide ((l.getD 0 0).toNat ≠ 48) && decide (l.length ≤ 2))) := by
  unfold scB
  rw [show (List.range l.length).all (fun i => digN (l.getD i 0).toNat) = true from List.all_eq_true.2 (fun i hi => h i (List.mem_range.1 hi)), Bool.true_and]
theorem valL_take {l : List UInt8} {j : Nat} (h : j < l.length) : valL (l.take (j + 1)) = valL (l.take j) * 10 + ((l.getD j 0).toNat - 48) := by
  unfold valL
  rw [List.take_add_one, List.getElem?_eq_getElem h, List.foldl_append, List.getD_eq_getElem?_getD, List.getElem?_eq_getElem h]; rfl
theorem valL_small {l : List UInt8} (hd : ∀ b ∈ l, 48 ≤ b.toNat ∧ b.toNat ≤ 57) : ∀ j, j ≤ l.length → valL (l.take j) < 10 ^ j
  | 0, _ => by simp [valL]
  | j + 1, h => by
    have h1 := valL_small hd j (by omega)
    have h2 := hd (l.getD j 0) (by rw [List.getD_eq_getElem?_getD, List.getElem?_eq_getElem (by omega)]; exact List.getElem_mem _)
    rw [valL_take (by omega), Nat.pow_succ]
    omega
/-- A type, a scale and whether there is one; what was there is as it was. -/
def PTyp (l : List UInt8) (w : World) : Ending → World → Prop := fun e w' => Below w.heap.size w w' ∧
  ((∃ ty sc, okTS ty sc ∧ l = typL ty sc ∧ e = .returned (.tuple #[.int .i64 ty, .int .i64 sc, .bool true])) ∨ ((∀ ty sc, okTS ty sc → l ≠ typL ty sc) ∧ e = .returned (.tuple #[.int .i64 0, .int .i64 0, .bool false])))
theorem PTyp.yes {l : List UInt8} {ty sc : Int} {w w' : World} {v : Value} (h : okTS ty sc) (h2 : l = typL ty sc) (hv : v = .tuple #[.int .i64 ty, .int .i64 sc, .bool true]) (hb : Below w.heap.size w w') : PTyp l w (.returned v) w' := ⟨hb, .inl ⟨ty, sc, h, h2, by rw [hv]⟩⟩
theorem PTyp.no {l : List UInt8} {w w' : World} {v : Value} (h : ∀ ty sc, okTS ty sc → l ≠ typL ty sc) (hv : v = .tuple #[.int .i64 0, .int .i64 0, .bool false]) (hb : Below w.heap.size w w') : PTyp l w (.returned v) w' := ⟨hb, .inr ⟨h, by rw [hv]⟩⟩
theorem typ_miss {l : List UInt8} {ty sc : Int} (h : 32 ∉ l) (hts : okTS ty sc) (he : l = typL ty sc) : ty ≠ 5 ∧ l = twL ty := by
  by_cases h5 : ty = 5
  · subst h5; rw [typL_five] at he; exact absurd (by rw [he]; simp) h
  · rw [typL_other h5] at he; exact ⟨h5, he⟩
theorem typ_hit {a r : List UInt8} {ty sc : Int} (h : 32 ∉ a) (hts : okTS ty sc) (he : a ++ 32 :: r = typL ty sc) : ty = 5 ∧ a = twL 5 ∧ r = scL sc.toNat := by
  by_cases h5 : ty = 5
  · subst h5; rw [typL_five] at he
    obtain ⟨h1, h2⟩ := cut_inj h (twL_nosp hts.1) he
    exact ⟨rfl, h1, h2⟩
  · rw [typL_other h5] at he
    exact (cut_one (twL_nosp hts.1) he).elim
end Go.SC
namespace Go.Proofs.YtfkdenlpailmeaaDoor
open Go.RowKit Go.VB Go.VL Go.SC
set_option linter.constructorNameAsVariable false
set_option maxRecDepth 100000 in
set_option maxHeartbeats 1000000 in
theorem isWord_any (n : List UInt8) (w : World) : Calls Tryd.prog 49 #[.string (str n)] w (Ret (.bool (decide (isW n))) w) := by
  by_cases h0 : n = []
  · subst h0
    rw [str_nil, decide_eq_false (fun h => h.1 rfl)]
    go_enter Tryd.func49, Tryd.ntmps49
    go_wp2
    go_ret
    exact Ret.mk rfl
  have hne := str_full h0
  have HC := fun w => Lib.hid (contains_any n 32 w)
  have hd : decide (isW n) = !decide (32 ∈ n) := by
    by_cases h : 32 ∈ n
    · rw [decide_eq_true h, decide_eq_false (fun hw => hw.2 h)]; rfl
    · rw [decide_eq_false h, decide_eq_true ⟨h0, h⟩]; rfl
  rw [hd]
  clear hd h0
  generalize decide (32 ∈ n) = b at *
  generalize str n = S at *
  go_enter Tryd.func49, Tryd.ntmps49
  go_wp2_with (go_at_call 54; refine (HC _).out.mono ?_; rintro e w' ⟨rfl, rfl⟩)
  go_ret
  exact Ret.mk rfl
set_option maxRecDepth 100000 in
set_option maxHeartbeats 2000000 in
theorem parseKey_any (l : List UInt8) (w : World) (hz : l.length ≤ 140737488351232) : Calls Tryd.prog 37 #[.string (str l)] w (PKey l w) := by
  have HW := fun n w => Lib.hid (isWord_any n w)
  rcases cut_cases 32 l with h | ⟨a, r, ha, rfl⟩
  · have HC := fun w => Lib.hid (cut_miss l 32 w h)
    have HNO := Lib.hid (not_key_miss h)
    have HW0 := fun w => Lib.hid (show Calls Tryd.prog 49 #[.string ⟨#[]⟩] w (Ret (.bool false) w) from (HW [] w).out)
    clear h HW hz
    by_cases hk : (str l).toList == [107, 101, 121]
    · generalize hP : PKey l w = P
      have HNO2 := fun v hv w' hb => Lib.hid (show P (.returned v) w' from by rw [← hP]; exact PKey.no HNO.out hv hb)
      clear hP HNO
      generalize str l = S at *
      go_enter Tryd.func37, Tryd.ntmps37
      go_wp2_with fail
      refine (HC _).out.mono ?_
      rintro e w' ⟨rfl, n, rfl⟩
      go_wp2_with (go_at_call 49; refine (HW0 _).out.mono ?_; rintro e w' ⟨rfl, rfl⟩)
      exact (HNO2 _ rfl _ (Go.below_drewN (Below.refl _ _) n)).out
    · have hk' : ((str l).toList == [107, 101, 121]) = false := by simpa using hk
      clear hk
      generalize hP : PKey l w = P
      have HNO2 := fun v hv w' hb => Lib.hid (show P (.returned v) w' from by rw [← hP]; exact PKey.no HNO.out hv hb)
      clear hP HNO
      generalize str l = S at *
      go_enter Tryd.func37, Tryd.ntmps37
      go_wp2_with fail
      refine (HC _).out.mono ?_
      rintro e w' ⟨rfl, n, rfl⟩
      go_wp2_with fail
      exact (HNO2 _ rfl _ (Go.below_drewN (Below.refl _ _) n)).out
  · have HC := fun w => Lib.hid (cut_hit a r 32 w ha hz)
    have HK := fun n => Lib.hid (key_hit (n := n) (r := r) ha)
    by_cases hk : a = keyL
    · subst hk
      have HWr := fun w => Lib.hid (HW r w).out
      clear HW
      have HP : ∀ (b : Bool), b = decide (isW r) → Hid (∀ v w', v = .tuple #[.string (if b then str r else ⟨#[]⟩), .bool b] → Below w.heap.size w w' → PKey (keyL ++ 32 :: r) w (.returned v) w') := fun b hb => Lib.hid (by
        intro v w' hv hbl
        by_cases hw : isW r
        · rw [hb, decide_eq_true hw] at hv
          exact PKey.yes ⟨hw, rfl⟩ hv hbl
        · rw [hb, decide_eq_false hw] at hv
          exact PKey.no (fun ⟨n, hn⟩ => hw (by rw [((HK n).out hn).2]; exact hn.1)) hv hbl)
      have HPb := HP _ rfl
      clear HP HK ha hz
      generalize decide (isW r) = b at *
      generalize PKey (keyL ++ 32 :: r) w = P at *
      generalize str (keyL ++ 32 :: r) = S at *
      rw [show str keyL = ⟨#[107, 101, 121]⟩ from rfl] at HC
      generalize str r = R at *
      cases b with
      | true =>
        go_enter Tryd.func37, Tryd.ntmps37
        go_wp2_with fail
        refine (HC _).out.mono ?_
        rintro e w' ⟨rfl, n, rfl⟩
        go_wp2_with (go_at_call 49; refine (HWr _).out.mono ?_; rintro e w' ⟨rfl, rfl⟩)
        exact HPb.out _ _ rfl (Go.below_drewN (Below.refl _ _) n)
      | false =>
        go_enter Tryd.func37, Tryd.ntmps37
        go_wp2_with fail
        refine (HC _).out.mono ?_
        rintro e w' ⟨rfl, n, rfl⟩
        go_wp2_with (go_at_call 49; refine (HWr _).out.mono ?_; rintro e w' ⟨rfl, rfl⟩)
        exact HPb.out _ _ rfl (Go.below_drewN (Below.refl _ _) n)
    · have HNO : Hid (¬ ∃ n, isKey (a ++ 32 :: r) n) := Lib.hid (fun ⟨n, hn⟩ => hk ((HK n).out hn).1)
      have hk' : ((str a).toList == [107, 101, 121]) = false := str_ne hk
      clear hk HK HW ha hz
      generalize hP : PKey (a ++ 32 :: r) w = P
      have HNO2 := fun v hv w' hb => Lib.hid (show P (.returned v) w' from by rw [← hP]; exact PKey.no HNO.out hv hb)
      clear hP HNO
      generalize str (a ++ 32 :: r) = S at *
      generalize str a = X at *
      generalize str r = R at *
      go_enter Tryd.func37, Tryd.ntmps37
      go_wp2_with fail
      refine (HC _).out.mono ?_
      rintro e w' ⟨rfl, n, rfl⟩
      go_wp2_with fail
      exact (HNO2 _ rfl _ (Go.below_drewN (Below.refl _ _) n)).out
set_option maxRecDepth 100000 in
set_option maxHeartbeats 2000000 in
theorem typeOf_any (l : List UInt8) (w : World) : Calls Tryd.prog 56 #[.string (str l)] w (Ret (.int .i64 (tyOf l)) w) := by
  unfold tyOf
  by_cases h1 : l = twL 1
  · subst h1; rw [if_pos rfl, show str (twL 1) = ⟨#[105, 110, 116]⟩ from rfl]
    go_enter Tryd.func56, Tryd.ntmps56
    go_wp2
    go_ret
    exact Ret.mk rfl
  rw [if_neg h1]
  have e1 : ((str l).toList == [105, 110, 116]) = false := str_ne h1
  by_cases h2 : l = twL 2
  · subst h2; rw [if_pos rfl, show str (twL 2) = ⟨#[98, 111, 111, 108]⟩ from rfl]
    go_enter Tryd.func56, Tryd.ntmps56
    go_wp2
    go_ret
    exact Ret.mk rfl
  rw [if_neg h2]
  have e2 : ((str l).toList == [98, 111, 111, 108]) = false := str_ne h2
  by_cases h3 : l = twL 3
  · subst h3; rw [if_pos rfl, show str (twL 3) = ⟨#[98, 121, 116, 101, 115]⟩ from rfl]
    go_enter Tryd.func56, Tryd.ntmps56
    go_wp2
    go_ret
    exact Ret.mk rfl
  rw [if_neg h3]
  have e3 : ((str l).toList == [98, 121, 116, 101, 115]) = false := str_ne h3
  by_cases h4 : l = twL 4
  · subst h4; rw [if_pos rfl, show str (twL 4) = ⟨#[100, 97, 116, 101]⟩ from rfl]
    go_enter Tryd.func56, Tryd.ntmps56
    go_wp2
    go_ret
    exact Ret.mk rfl
  rw [if_neg h4]
  have e4 : ((str l).toList == [100, 97, 116, 101]) = false := str_ne h4
  by_cases h5 : l = twL 5
  · subst h5; rw [if_pos rfl, show str (twL 5) = ⟨#[100, 101, 99, 105, 109, 97, 108]⟩ from rfl]
    go_enter Tryd.func56, Tryd.ntmps56
    go_wp2
    go_ret
    exact Ret.mk rfl
  rw [if_neg h5]
  have e5 : ((str l).toList == [100, 101, 99, 105, 109, 97, 108]) = false := str_ne h5
  clear h1 h2 h3 h4 h5
  generalize str l = S at *
  go_enter Tryd.func56, Tryd.ntmps56
  go_wp2
  go_ret
  exact Ret.mk rfl
set_option maxRecDepth 100000 in
set_option maxHeartbeats 2000000 in
theorem isScale_any (l : List UInt8) (w : World) (hz : l.length ≤ 140737488351232) : Calls Tryd.prog 57 #[.string (str l)] w (Ret (.bool (scB l)) w) := by
  have hb : ∀ (n : Nat) (h : n < (str l).size), ((str l)[n]'h).toNat = (l.getD n 0).toNat := fun n h => by rw [get_bN, bN_str]
  have hS := size_of l
  have HD := fun n w => Lib.hid (isDigit_any n w)
  have HBAD := fun i => Lib.hid (scB_bad (l := l) (i := i))
  have HEND := Lib.hid (scB_end (l := l))
  have hlist : (str l).toList = l := by rw [ByteArray.toList_eq, str_toList]
  have hzz : (str l).size ≤ 140737488351232 := by rw [hS]; exact hz
  rw [← hS] at HBAD HEND
  have HFIN : (decide (l = [48]) || (decide (l ≠ []) && decide ((l.getD 0 0).toNat ≠ 48) && decide ((str l).size ≤ 2))) = true ∨ (decide (l = [48]) || (decide (l ≠ []) && decide ((l.getD 0 0).toNat ≠ 48) && decide ((str l).size ≤ 2))) = false := by
    cases (decide (l = [48]) || (decide (l ≠ []) && decide ((l.getD 0 0).toNat ≠ 48) && decide ((str l).size ≤ 2))) <;> simp
  clear HFIN
  have hfull : l ≠ [] → (str l).toList.isEmpty = false := fun h => str_full h
  have hne48 : l ≠ [48] → ((str l).toList == [48]) = false := fun h => str_ne h
  have hS48 : l = [48] → str l = ⟨#[48]⟩ := fun h => by rw [h]; rfl
  have hS0 : l = [] → str l = ⟨#[]⟩ := fun h => by rw [h]; rfl
  generalize str l = S at *
  have HS := Lib.hid hS
  clear hS hz hlist
  go_enter Tryd.func57, Tryd.ntmps57
  go_wp2_with fail
  go_loop [2, 3, 6] (fun r i j => ∃ k : Nat, r = .bool false ∧ j = .int .i64 k ∧ k ≤ S.size ∧ ∀ m, m < k → digN (l.getD m 0).toNat = true) (fun _ _ j => S.size - (intOf j).toNat)
  case atStart => exact ⟨0, rfl, rfl, Nat.zero_le _, none_below⟩
  case round =>
    obtain ⟨k, rfl, rfl, hk, hf⟩ := hrel
    have HP := Lib.hid hf; clear hf
    by_cases hlt : k < S.size
    · have hgk := hb k
      have HFk := fun h => Lib.hid ((HBAD k).out hlt h)
      have HN := fun h => Lib.hid (snoc (p := fun m => digN (l.getD m 0).toNat = true) (j := k) HP.out h)
      have hbl : (l.getD k 0).toNat < 256 := UInt8.toNat_lt _
      clear HBAD HEND HP hb hfull hne48 hS48 hS0
      generalize (l.getD k 0).toNat = V at *
      cases hd : digN V with
      | true =>
        have HE := HN hd
        have HDk := fun w => Lib.hid (show Calls Tryd.prog 43 #[.int .u8 (V : Int)] w (Ret (.bool true) w) from by have := (HD V w).out; rwa [hd] at this)
        clear hd HN HFk HD
        go_wp2_with (go_at_call 43; (with_reducible refine (HDk _).out.mono ?_); rintro e w' ⟨rfl, rfl⟩)
        go_round
        case rel => exact ⟨k + 1, rfl, by go_num, hlt, HE.out⟩
        case measure => simp [intOf] <;> omega
      | false =>
        have HE := HFk hd
        have HDk := fun w => Lib.hid (show Calls Tryd.prog 43 #[.int .u8 (V : Int)] w (Ret (.bool false) w) from by have := (HD V w).out; rwa [hd] at this)
        clear hd HN HFk HD
        go_wp2_with (go_at_call 43; (with_reducible refine (HDk _).out.mono ?_); rintro e w' ⟨rfl, rfl⟩)
        go_ret
        exact Ret.mk (congrArg Value.bool HE.out.symm)
    · have HE := HEND.out (fun i hi => HP.out i (by omega))
      clear HEND HP HBAD HD
      by_cases h48 : l = [48]
      · rw [decide_eq_true h48, Bool.true_or] at HE
        have HE2 := Lib.hid HE
        have hSe := hS48 h48
        clear HE hb hfull hne48 hS48 hS0 h48
        subst hSe
        obtain rfl : k = 1 := by
          have h2 : (⟨#[48]⟩ : ByteArray).size = 1 := rfl
          omega
        clear hlt hk hzz
        go_wp2
        go_ret
        exact Ret.mk (congrArg Value.bool HE2.out.symm)
      · have e48 := hne48 h48
        rw [decide_eq_false h48, Bool.false_or] at HE
        by_cases hn : l = []
        · rw [decide_eq_false (fun h => h hn), Bool.false_and, Bool.false_and] at HE
          have HE2 := Lib.hid HE
          have hSe := hS0 hn
          clear HE hb hfull hne48 e48 hS48 hS0 hn h48
          subst hSe
          obtain rfl : k = 0 := by
            have h2 : (⟨#[]⟩ : ByteArray).size = 0 := rfl
            omega
          clear hlt hk hzz
          go_wp2
          go_ret
          exact Ret.mk (congrArg Value.bool HE2.out.symm)
        · have efull := hfull hn
          have hpos : 0 < S.size := by
            rw [HS.out]; cases l with
            | nil => exact absurd rfl hn
            | cons _ _ => simp
          have hg0 := hb 0
          rw [decide_eq_true hn, Bool.true_and] at HE
          clear hb hfull hne48 hS48 hS0 h48 hn
          generalize (l.getD 0 0).toNat = V at *
          by_cases hV : V = 48
          · have hV' : ((V : Int) != 48) = false := ine_f (by omega)
            rw [decide_eq_false (fun h => h hV), Bool.false_and] at HE
            have HE2 := Lib.hid HE
            clear HE hV
            go_wp2
            go_ret
            exact Ret.mk (congrArg Value.bool HE2.out.symm)
          · have hV' : ((V : Int) != 48) = true := ine_t (by omega)
            rw [decide_eq_true hV, Bool.true_and] at HE
            have HE2 := Lib.hid HE
            clear HE hV
            go_wp2
            go_ret
            exact Ret.mk (congrArg Value.bool (by rw [HE2.out]; simp; omega))
set_option maxRecDepth 100000 in
set_option maxHeartbeats 2000000 in
theorem numberOf_any (l : List UInt8) (w : World) (hl : l.length ≤ 2) (hd : ∀ b ∈ l, 48 ≤ b.toNat ∧ b.toNat ≤ 57) : Calls Tryd.prog 58 #[.string (str l)] w (Ret (.int .i64 (valL l : Nat)) w) := by
  have hb : ∀ (n : Nat) (h : n < (str l).size), ((str l)[n]'h).toNat = (l.getD n 0).toNat := fun n h => by rw [get_bN, bN_str]
  have hS := size_of l
  have HT := fun j => Lib.hid (valL_take (l := l) (j := j))
  have HB := fun j h => Lib.hid (show valL (l.take j) < 100 from Nat.lt_of_lt_of_le (valL_small hd j h) (by
    have : j ≤ 2 := by omega
    exact (Nat.pow_le_pow_right (by decide) this : 10 ^ j ≤ 10 ^ 2)))
  have HD := fun (k : Nat) (h : k < l.length) => hd (l.getD k 0) (by rw [List.getD_eq_getElem?_getD, List.getElem?_eq_getElem h]; exact List.getElem_mem h)
  have HALL : Hid (valL (l.take l.length) = valL l) := Lib.hid (by rw [List.take_length])
  rw [← hS] at HT HB HD HALL hl
  clear hS hd
  generalize str l = S at *
  go_enter Tryd.func58, Tryd.ntmps58
  go_wp2_with fail
  go_loop [3, 4, 7] (fun v _ j => ∃ k : Nat, v = .int .i64 (valL (l.take k) : Nat) ∧ j = .int .i64 k ∧ k ≤ S.size) (fun _ _ j => S.size - (intOf j).toNat)
  case atStart => exact ⟨0, rfl, rfl, Nat.zero_le _⟩
  case round =>
    obtain ⟨k, rfl, rfl, hk⟩ := hrel
    have hv := (HB k hk).out
    by_cases hlt : k < S.size
    · have hgk := hb k
      have hn := (HT k).out hlt
      have hdk := HD k hlt
      clear HT HB HD HALL hb
      have hn2 : ((valL (l.take (k + 1)) : Nat) : Int) = (valL (l.take k) : Nat) * 10 + (((l.getD k 0).toNat : Int) - 48) := by rw [hn]; omega
      have HN := Lib.hid hn2
      clear hn hn2
      generalize (l.getD k 0).toNat = V at *
      generalize valL (l.take k) = u at *
      go_wp2
      go_round
      case rel => exact ⟨k + 1, by rw [HN.out], by go_num, hlt⟩
      case measure => simp [intOf] <;> omega
    · obtain rfl : k = S.size := by omega
      clear HT HB HD hb
      generalize valL (l.take S.size) = u at *
      go_wp2
      go_ret
      exact Ret.mk (by rw [← HALL.out]; rfl)
end Go.Proofs.YtfkdenlpailmeaaDoor
