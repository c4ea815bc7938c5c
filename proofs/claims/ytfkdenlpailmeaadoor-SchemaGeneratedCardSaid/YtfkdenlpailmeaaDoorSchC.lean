/- The walks over strings.Cut, CutSuffix, Contains at the separators that package schema uses. -/
import Derived.Test.YtfkdenlpailmeaaDoorSchP
import Derived.RegionTactic
namespace Go.SC
open Go.RowKit Go.VB Go.VL
/-- It returns v; the world is as it was but for the count of draws. -/
def RetD (v : Value) (w : World) : Ending → World → Prop := fun e w' => e = .returned v ∧ ∃ n, w' = w.drewN n
theorem RetD.mk {v v' : Value} {w : World} (n : Nat) (h : v' = v) : RetD v w (.returned v') (w.drewN n) := ⟨by rw [h], n, rfl⟩
theorem RetD.mk1 {v v' : Value} {w : World} (h : v' = v) : RetD v w (.returned v') w.drew := ⟨by rw [h], 1, rfl⟩
theorem RetD.mk0 {v v' : Value} {w : World} (h : v' = v) : RetD v w (.returned v') w := ⟨by rw [h], 0, rfl⟩
theorem RetD.toB {v : Value} {w : World} {e : Ending} {w' : World} (h : RetD v w e w') : RetB v w e w' := by
  obtain ⟨h1, n, rfl⟩ := h; exact ⟨h1, Go.below_drewN (Below.refl _ _) n⟩
theorem idx_hit (b : UInt8) (r : List UInt8) : ∀ a : List UInt8, b ∉ a → Lib.indexByte (a ++ b :: r) b = (a.length : Int)
  | [], _ => by unfold Lib.indexByte; simp
  | x :: a, h => by
    have h1 : (x == b) = false := beq_eq_false_iff_ne.2 fun e => h (by rw [e]; exact List.mem_cons_self ..)
    have h2 := idx_hit b r a (fun hm => h (List.mem_cons_of_mem _ hm))
    show Lib.indexByte (x :: (a ++ b :: r)) b = _
    unfold Lib.indexByte
    rw [h1, h2]
    simp
theorem idx_miss (b : UInt8) : ∀ a : List UInt8, b ∉ a → Lib.indexByte a b = -1
  | [], _ => rfl
  | x :: a, h => by
    have h1 : (x == b) = false := beq_eq_false_iff_ne.2 fun e => h (by rw [e]; exact List.mem_cons_self ..)
    have h2 := idx_miss b a (fun hm => h (List.mem_cons_of_mem _ hm))
    unfold Lib.indexByte
    rw [h1, h2]
    rfl
theorem size_of (l : List UInt8) : (str l).size = l.length := str_size l
theorem cut_left (a r : List UInt8) (b : UInt8) : (str (a ++ b :: r)).extract 0 a.length = str a := by
  rw [extract_str, str_toList]; simp
theorem cut_right (a r : List UInt8) (b : UInt8) : (str (a ++ b :: r)).extract (a.length + 1) (str (a ++ b :: r)).size = str r := by
  rw [extract_end, str_toList]
  simp
/-- Every list has byte b not at all, or a first one. -/
theorem cut_cases (b : UInt8) : ∀ l : List UInt8, b ∉ l ∨ ∃ a r, b ∉ a ∧ l = a ++ b :: r
  | [] => .inl (by simp)
  | x :: l => by
    by_cases hx : x = b
    · exact .inr ⟨[], l, by simp, by rw [hx]; rfl⟩
    · rcases cut_cases b l with h | ⟨a, r, h, rfl⟩
      · exact .inl (fun hm => by
          rcases List.mem_cons.1 hm with h1 | h1
          · exact hx h1.symm
          · exact h h1)
      · refine .inr ⟨x :: a, r, fun hm => ?_, rfl⟩
        rcases List.mem_cons.1 hm with h1 | h1
        · exact hx h1.symm
        · exact h h1
end Go.SC
namespace Go.Proofs.YtfkdenlpailmeaaDoor
open Go.RowKit Go.VB Go.VL Go.SC
set_option linter.constructorNameAsVariable false
set_option maxRecDepth 100000 in
set_option maxHeartbeats 1000000 in
theorem idxByte_any (s : ByteArray) (c : Int) (w : World) : Calls Tryd.prog 60 #[.string s, .int .u8 c] w (Ret (.int .i64 (Lib.indexByte s.data.toList c.toNat.toUInt8)) w) := by
  go_enter Tryd.func60, Tryd.ntmps60
  go_wp2
  rw [run_callFunc_extern Tryd.func70 (by kernel_rfl) (by kernel_rfl) (by kernel_rfl) (e := Extern.BytealgIndexByte.indexByte) (by kernel_rfl), Lib.run_indexByteString]
  simp only [Result.andThen]
  rw [Oper.upon_value]
  go_wp2
  go_ret
  exact Ret.mk rfl
set_option maxRecDepth 100000 in
set_option maxHeartbeats 1000000 in
theorem idx_any (l : List UInt8) (b : UInt8) (w : World) : Calls Tryd.prog 53 #[.string (str l), .string ⟨#[b]⟩] w (Ret (.int .i64 (Lib.indexByte l b)) w) := by
  have HI := fun w => Lib.hid (idxByte_any (str l) (b.toNat : Int) w)
  rw [str_toList, show ((b.toNat : Int)).toNat.toUInt8 = b from by rw [Int.toNat_natCast]; exact UInt8.ofNat_toNat] at HI
  by_cases h1 : ([b] == (str l).toList) = true
  · have e : l = [b] := by
      have := beq_iff_eq.1 h1
      rw [ByteArray.toList_eq, str_toList] at this; exact this.symm
    subst e
    have hv : Lib.indexByte [b] b = 0 := by unfold Lib.indexByte; simp
    generalize hS : str [b] = S at *
    clear hS
    go_enter Tryd.func53, Tryd.ntmps53
    go_wp2_with (go_at_call 60; (with_reducible refine (HI _).out.mono ?_); rintro e w' ⟨rfl, rfl⟩)
    all_goals
      go_ret
      exact Ret.mk (by rw [hv]; rfl)
  · have h1' : ([b] == (str l).toList) = false := by simpa using h1
    clear h1
    generalize str l = S at *
    go_enter Tryd.func53, Tryd.ntmps53
    go_wp2_with fail
    refine (HI _).out.mono ?_
    rintro e w' ⟨rfl, rfl⟩
    go_wp2
    go_ret
    exact Ret.mk rfl
set_option maxRecDepth 100000 in
set_option maxHeartbeats 2000000 in
theorem scut_hit (a r : List UInt8) (b : UInt8) (w : World) (ha : b ∉ a) (hz : (a ++ b :: r).length ≤ 140737488351232) :
    Calls Tryd.prog 48 #[.string (str (a ++ b :: r)), .string ⟨#[b]⟩] w (RetD (.tuple #[.string (str a), .string (str r), .bool true]) w) := by
  have HI := fun w => Lib.hid (idx_any (a ++ b :: r) b w)
  rw [idx_hit b r a ha] at HI
  have e1 := cut_left a r b
  have e2 := cut_right a r b
  have hS := size_of (a ++ b :: r)
  have hl : a.length + 1 ≤ (str (a ++ b :: r)).size := by rw [hS]; simp
  rw [← hS] at hz
  clear hS ha
  generalize str (a ++ b :: r) = S at *
  generalize str a = X at *
  generalize str r = Y at *
  generalize a.length = k at *
  have c1 : (0 : Int) ≤ (k : Int) := by omega
  have c2 : (k : Int) ≤ (S.size : Int) := by omega
  have c3 : (0 : Int) ≤ (k : Int) + 1 := by omega
  have c4 : (k : Int) + 1 ≤ (S.size : Int) := by omega
  go_enter Tryd.func48, Tryd.ntmps48
  go_wp2_with (go_at_call 53; refine (HI _).out.mono ?_; rintro e w' ⟨rfl, rfl⟩)
  go_region
  go_wp2
  go_ret3
  exact RetD.mk1 (by rw [← e1, ← e2]; rfl)
set_option maxRecDepth 100000 in
set_option maxHeartbeats 2000000 in
theorem scut_miss (l : List UInt8) (b : UInt8) (w : World) (ha : b ∉ l) :
    Calls Tryd.prog 48 #[.string (str l), .string ⟨#[b]⟩] w (RetD (.tuple #[.string (str l), .string ⟨#[]⟩, .bool false]) w) := by
  have HI := fun w => Lib.hid (idx_any l b w)
  rw [idx_miss b l ha] at HI
  clear ha
  generalize str l = S at *
  go_enter Tryd.func48, Tryd.ntmps48
  go_wp2_with (go_at_call 53; refine (HI _).out.mono ?_; rintro e w' ⟨rfl, rfl⟩)
  go_ret3
  exact RetD.mk0 rfl
set_option maxRecDepth 100000 in
set_option maxHeartbeats 2000000 in
theorem cut_of (S T : ByteArray) (v : Value) (x y : ByteArray) (b : Bool) (w : World) (hv : v = .tuple #[.string x, .string y, .bool b])
    (h : ∀ w, Calls Tryd.prog 48 #[.string S, .string T] w (RetD v w)) : Calls Tryd.prog 36 #[.string S, .string T] w (RetD v w) := by
  subst hv
  have H := fun w => Lib.hid (h w)
  clear h
  go_enter Tryd.func36, Tryd.ntmps36
  go_wp2_with (go_at_call 48; refine (H _).out.mono ?_; rintro e w' ⟨rfl, n, rfl⟩)
  go_ret3
  exact RetD.mk n rfl
theorem cut_hit (a r : List UInt8) (b : UInt8) (w : World) (ha : b ∉ a) (hz : (a ++ b :: r).length ≤ 140737488351232) :
    Calls Tryd.prog 36 #[.string (str (a ++ b :: r)), .string ⟨#[b]⟩] w (RetD (.tuple #[.string (str a), .string (str r), .bool true]) w) :=
  cut_of _ _ _ _ _ _ w rfl (fun w => scut_hit a r b w ha hz)
theorem cut_miss (l : List UInt8) (b : UInt8) (w : World) (ha : b ∉ l) :
    Calls Tryd.prog 36 #[.string (str l), .string ⟨#[b]⟩] w (RetD (.tuple #[.string (str l), .string ⟨#[]⟩, .bool false]) w) :=
  cut_of _ _ _ _ _ _ w rfl (fun w => scut_miss l b w ha)
set_option maxRecDepth 100000 in
set_option maxHeartbeats 2000000 in
/-- Contains, of a string of one byte. -/
theorem contains_any (l : List UInt8) (b : UInt8) (w : World) : Calls Tryd.prog 54 #[.string (str l), .string ⟨#[b]⟩] w (Ret (.bool (decide (b ∈ l))) w) := by
  have HI := fun w => Lib.hid (idx_any l b w)
  have hd : decide (0 ≤ Lib.indexByte l b) = decide (b ∈ l) := by
    rcases cut_cases b l with h | ⟨a, r, h, rfl⟩
    · rw [idx_miss b l h, decide_eq_false h]; rfl
    · rw [idx_hit b r a h, decide_eq_true (show b ∈ a ++ b :: r by simp)]
      exact decide_eq_true (by omega)
  rw [← hd]
  clear hd
  generalize str l = S at *
  generalize Lib.indexByte l b = I at *
  have HX : ∀ w, Hid (Calls Tryd.prog 64 #[.string S, .string ⟨#[b]⟩] w (Ret (.int .i64 I) w)) := fun w => Lib.hid (by
    go_enter Tryd.func64, Tryd.ntmps64
    go_wp2_with (go_at_call 53; refine (HI _).out.mono ?_; rintro e w' ⟨rfl, rfl⟩)
    go_ret
    exact Ret.mk rfl)
  go_enter Tryd.func54, Tryd.ntmps54
  go_wp2_with (go_at_call 64; refine (HX _).out.mono ?_; rintro e w' ⟨rfl, rfl⟩)
  go_ret
  exact Ret.mk rfl
set_option maxRecDepth 100000 in
set_option maxHeartbeats 2000000 in
theorem hasSuf_any (l p : List UInt8) (w : World) (hz : l.length ≤ 140737488351232) (hp : p.length ≤ 1000) : Calls Tryd.prog 65 #[.string (str l), .string (str p)] w (Ret (.bool (Lib.hasSuffix l p)) w) := by
  have hr := Lib.hasSuffix_raw (str l) (str p)
  rw [str_toList, str_toList] at hr
  have h1 := size_of l
  have h2 := size_of p
  generalize str l = S at *
  generalize str p = T at *
  by_cases hle : T.size ≤ S.size
  · rw [decide_eq_true hle, Bool.true_and] at hr
    have c1 : (0 : Int) ≤ (S.size : Int) - (T.size : Int) := by omega
    have c2 : (S.size : Int) - (T.size : Int) ≤ (S.size : Int) := by omega
    have e0 : ((S.size : Int) - (T.size : Int)) = ((S.size - T.size : Nat) : Int) := by omega
    have hS : (S.size : Int) ≤ 140737488351232 := by omega
    have hT : (T.size : Int) ≤ 1000 := by omega
    rw [← hr]
    clear hr h1 h2 hz hp
    go_enter Tryd.func65, Tryd.ntmps65
    go_wp2
    go_ret
    exact Ret.mk rfl
  · rw [decide_eq_false hle, Bool.false_and] at hr
    rw [← hr]
    clear hr h1 h2 hz hp
    go_enter Tryd.func65, Tryd.ntmps65
    go_wp2
    go_ret
    exact Ret.mk rfl
set_option maxRecDepth 100000 in
set_option maxHeartbeats 2000000 in
theorem cutSuf_any (l p : List UInt8) (w : World) (hz : l.length ≤ 140737488351232) (hp : p.length ≤ 1000) :
    Calls Tryd.prog 50 #[.string (str l), .string (str p)] w (Ret (.tuple #[.string (str (Lib.trimSuffix l p)), .bool (Lib.hasSuffix l p)]) w) := by
  have HH := fun w => Lib.hid (hasSuf_any l p w hz hp)
  have HC : ∀ w, Hid (Calls Tryd.prog 55 #[.string (str l), .string (str p)] w (Ret (.tuple #[.string (str (Lib.trimSuffix l p)), .bool (Lib.hasSuffix l p)]) w)) := fun w => Lib.hid (by
    have h1 := size_of l
    have h2 := size_of p
    have hr := Lib.hasSuffix_raw (str l) (str p)
    rw [str_toList, str_toList] at hr
    cases hs : Lib.hasSuffix l p with
    | false =>
      have ht : Lib.trimSuffix l p = l := by unfold Lib.trimSuffix; rw [hs]; rfl
      rw [ht]
      rw [hs] at HH
      clear hs ht hr h1 h2 hz hp
      generalize str l = S at *
      generalize str p = T at *
      go_enter Tryd.func55, Tryd.ntmps55
      go_wp2_with (go_at_call 65; refine (HH _).out.mono ?_; rintro e w' ⟨rfl, rfl⟩)
      go_ret2
      exact Ret.mk rfl
    | true =>
      rw [hs] at hr HH
      obtain ⟨hle', hb⟩ := Bool.and_eq_true_iff.1 hr
      have hle : (str p).size ≤ (str l).size := of_decide_eq_true hle'
      have ht := Lib.trimSuffix_hit (str l) (str p) hle hb
      rw [str_toList, str_toList] at ht
      have ht' : str (Lib.trimSuffix l p) = (str l).extract 0 ((str l).size - (str p).size) := ht
      rw [ht']
      clear hs ht ht' hr hle' hb
      have hS : ((str l).size : Int) ≤ 140737488351232 := by omega
      have hT : ((str p).size : Int) ≤ 1000 := by omega
      clear h1 h2 hz hp
      generalize str l = S at *
      generalize str p = T at *
      have c1 : (0 : Int) ≤ (S.size : Int) - (T.size : Int) := by omega
      have c2 : (S.size : Int) - (T.size : Int) ≤ (S.size : Int) := by omega
      go_enter Tryd.func55, Tryd.ntmps55
      go_wp2_with (go_at_call 65; refine (HH _).out.mono ?_; rintro e w' ⟨rfl, rfl⟩)
      go_ret2
      exact Ret.mk (by rw [show S.size - T.size = ((S.size : Int) - (T.size : Int)).toNat from by omega]; rfl))
  clear HH hz hp
  generalize str (Lib.trimSuffix l p) = X at *
  generalize Lib.hasSuffix l p = b at *
  generalize str l = S at *
  generalize str p = T at *
  go_enter Tryd.func50, Tryd.ntmps50
  go_wp2_with (go_at_call 55; refine (HC _).out.mono ?_; rintro e w' ⟨rfl, rfl⟩)
  go_ret2
  exact Ret.mk rfl
end Go.Proofs.YtfkdenlpailmeaaDoor
