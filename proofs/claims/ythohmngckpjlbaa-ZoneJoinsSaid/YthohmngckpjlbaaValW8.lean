/- The walks over Put and Get, package value's and the reference's. -/
import Derived.Test.YthohmngckpjlbaaVarRef
import Derived.Test.YthohmngckpjlbaaConfl
import Derived.Test.YthohmngckpjlbaaValW5
import Derived.Test.YthohmngckpjlbaaValV
import Derived.Deep.RegionWith
namespace Go.VL
open Go.RowKit Go.VB Go.VarM
/-- The binary form of a value. -/
def putV (nul : Bool) (n : Int) (s : ByteArray) : List UInt8 := if nul then [0] else [1] ++ putL (zigN n).toNat ++ putL s.size ++ s.data.toList
/-- A read value, the index behind it and a code. -/
structure GV where
  nul : Bool
  n : Int
  s : ByteArray
  i : Int
  e : Nat
def GV.val (g : GV) : Value := .tuple #[.agg #[.bool g.nul, .int .i64 g.n, .string g.s], .int .i64 g.i, .int .i64 (g.e : Int)]
def gvF (e : Nat) : GV := ⟨false, 0, ⟨#[]⟩, 0, e⟩
/-- What is read behind the first byte. -/
def getP (s : ByteArray) (i : Int) : GV :=
  if (getR s i).2.2 ≠ 0 then gvF (getR s i).2.2
  else if (getR s (getR s i).2.1).2.2 ≠ 0 then gvF (getR s (getR s i).2.1).2.2
  else if (s.size : Int) - (getR s (getR s i).2.1).2.1 < (getR s (getR s i).2.1).1 then gvF 10
  else ⟨false, zagN (getR s i).1, s.extract (getR s (getR s i).2.1).2.1.toNat ((getR s (getR s i).2.1).2.1.toNat + (getR s (getR s i).2.1).1), (getR s (getR s i).2.1).2.1 + (getR s (getR s i).2.1).1, 0⟩
def getV (s : ByteArray) (i : Int) : GV :=
  if i < 0 ∨ (s.size : Int) < i then gvF 4
  else if i = s.size then gvF 10
  else if bN s i.toNat = 0 then ⟨true, 0, ⟨#[]⟩, i + 1, 0⟩
  else if bN s i.toNat = 1 then getP s (i + 1)
  else gvF 2
theorem getR_okV {s : ByteArray} {i : Int} (h : (getR s i).2.2 = 0) : 0 ≤ (getR s i).2.1 ∧ (getR s i).2.1 ≤ s.size ∧ (getR s i).1 < 18446744073709551616 := by
  unfold getR at h ⊢
  by_cases hr : i < 0 ∨ (s.size : Int) < i
  · rw [if_pos hr] at h; cases h
  · rw [if_neg hr] at h ⊢
    by_cases h0 : (getL (s.data.toList.drop i.toNat)).2.2 = 0
    · simp only [h0, if_true]
      obtain ⟨h1, h2, _, h4⟩ := getL_ok h0
      rw [List.length_drop, size_list] at h2
      exact ⟨by omega, by omega, h4⟩
    · simp only [h0, if_false] at h
/-- A text of one byte. -/
theorem one_byte (s : ByteArray) (k : Nat) (h : k < s.size) : (s.extract k (k + 1)).toList = [UInt8.ofNat (bN s k)] := by
  rw [ByteArray.toList_eq, extract_list, show k + 1 - k = 1 from by omega]
  unfold bN
  rw [List.take_one, List.head?_drop, List.getD_eq_getElem?_getD, List.getElem?_eq_getElem (by rw [size_list]; exact h)]
  simp
end Go.VL
namespace Go.Proofs.Ythohmngckpjlbaa
open Go.RowKit Go.VB Go.VL Go.VarM
set_option maxRecDepth 100000 in
set_option maxHeartbeats 2000000 in
theorem getP_any (s : ByteArray) (i : Int) (w : World) (hs : s.size ≤ 4611686018427387904) : Calls Try.prog 55 #[.string s, .int .i64 i] w (RetB (getP s i).val w) := by
  have H1 := fun w => Lib.hid (vget_any s i w (by unfold maxLen; omega))
  have hP : getP s i = if (getR s i).2.2 ≠ 0 then gvF (getR s i).2.2
    else if (getR s (getR s i).2.1).2.2 ≠ 0 then gvF (getR s (getR s i).2.1).2.2
    else if (s.size : Int) - (getR s (getR s i).2.1).2.1 < (getR s (getR s i).2.1).1 then gvF 10
    else ⟨false, zagN (getR s i).1, s.extract (getR s (getR s i).2.1).2.1.toNat ((getR s (getR s i).2.1).2.1.toNat + (getR s (getR s i).2.1).1), (getR s (getR s i).2.1).2.1 + (getR s (getR s i).2.1).1, 0⟩ := rfl
  rw [hP]; clear hP
  by_cases e1 : (getR s i).2.2 = 0
  · rw [if_neg (by simpa using e1)]
    obtain ⟨b1, b2, b3⟩ := getR_okV e1
    have H2 := fun w => Lib.hid (vget_any s (getR s i).2.1 w (by unfold maxLen; omega))
    have HZ := fun w => Lib.hid (vzag_any ((getR s i).1 : Int) w (by omega) (by omega))
    have hv1 : vres (getR s i) = .tuple #[.int .u64 ((getR s i).1 : Nat), .int .i64 (getR s i).2.1, .int .i64 0] := by unfold vres; rw [e1]; rfl
    rw [hv1] at H1
    clear hv1 e1
    generalize (getR s i).2.1 = i1 at *
    generalize zagN ((getR s i).1 : Int) = z at *
    generalize (getR s i).1 = n1 at *
    by_cases e2 : (getR s i1).2.2 = 0
    · rw [if_neg (by simpa using e2)]
      obtain ⟨c1, c2, c3⟩ := getR_okV e2
      have hv2 : vres (getR s i1) = .tuple #[.int .u64 ((getR s i1).1 : Nat), .int .i64 (getR s i1).2.1, .int .i64 0] := by unfold vres; rw [e2]; rfl
      rw [hv2] at H2
      clear hv2 e2
      generalize (getR s i1).2.1 = i2 at *
      generalize (getR s i1).1 = m at *
      obtain ⟨k, rfl⟩ := Int.eq_ofNat_of_zero_le c1
      have hk : k ≤ s.size := by omega
      clear c1 c2 b1 b2 b3
      by_cases h3 : (s.size : Int) - k < m
      · rw [if_pos h3]
        have hd : decide ((s.size : Int) - k < m) = true := decide_eq_true h3
        have hu : IntKind.u64.wrap ((s.size : Int) - k) = (s.size : Int) - k := IntWalk.u64_in _ ⟨by omega, by omega⟩
        go_enter Try.func55, Try.ntmps55
        go_wp2_with (first | (go_at_call 54; (with_reducible refine (H1 _).out.mono ?_); rintro e w' ⟨rfl, rfl⟩) | (go_at_call 54; (with_reducible refine (H2 _).out.mono ?_); rintro e w' ⟨rfl, rfl⟩))
        refine bodyPost_ret (v := (gvF 10).val) (by simp [GV.val, gvF, results, Try.results55, go_sem]) rfl ?_
        exact RetB.mk rfl (by go_grown)
      · rw [if_neg h3]
        have hm : k + m ≤ s.size := by omega
        have hd : decide ((s.size : Int) - k < m) = false := decide_eq_false h3
        have hu : IntKind.u64.wrap ((s.size : Int) - k) = (s.size : Int) - k := IntWalk.u64_in _ ⟨by omega, by omega⟩
        clear h3
        go_enter Try.func55, Try.ntmps55
        go_wp2_with (first | (go_at_call 54; (with_reducible refine (H1 _).out.mono ?_); rintro e w' ⟨rfl, rfl⟩) | (go_at_call 54; (with_reducible refine (H2 _).out.mono ?_); rintro e w' ⟨rfl, rfl⟩))
        go_region_with (go_at_call 66; refine (HZ _).out.mono ?_; rintro e w' ⟨rfl, rfl⟩)
        all_goals
          go_wp2
          refine bodyPost_ret (v := .tuple #[.agg #[.bool false, .int .i64 z, .string (s.extract k (k + m))], .int .i64 ((k : Int) + m), .int .i64 0]) (by simp [results, Try.results55, go_sem]) rfl ?_
          exact RetB.mk rfl (by go_grown)
    · rw [if_pos e2]
      have hv2 : vres (getR s i1) = .tuple #[.int .u64 ((getR s i1).1 : Nat), .int .i64 (getR s i1).2.1, .int .i64 ((getR s i1).2.2 : Nat)] := rfl
      rw [hv2] at H2
      generalize (getR s i1).2.2 = c at *
      have hc : ((c : Int) != 0) = true := ine_t (by omega)
      clear hv2 e2
      go_enter Try.func55, Try.ntmps55
      go_wp2_with (first | (go_at_call 54; (with_reducible refine (H1 _).out.mono ?_); rintro e w' ⟨rfl, rfl⟩) | (go_at_call 54; (with_reducible refine (H2 _).out.mono ?_); rintro e w' ⟨rfl, rfl⟩))
      refine bodyPost_ret (v := (gvF c).val) (by simp [GV.val, gvF, results, Try.results55, go_sem]) rfl ?_
      exact RetB.mk rfl (by go_grown)
  · rw [if_pos e1]
    have hv1 : vres (getR s i) = .tuple #[.int .u64 ((getR s i).1 : Nat), .int .i64 (getR s i).2.1, .int .i64 ((getR s i).2.2 : Nat)] := rfl
    rw [hv1] at H1
    generalize (getR s i).2.2 = c at *
    have hc : ((c : Int) != 0) = true := ine_t (by omega)
    clear hv1 e1
    go_enter Try.func55, Try.ntmps55
    go_wp2_with (go_at_call 54; (with_reducible refine (H1 _).out.mono ?_); rintro e w' ⟨rfl, rfl⟩)
    refine bodyPost_ret (v := (gvF c).val) (by simp [GV.val, gvF, results, Try.results55, go_sem]) rfl ?_
    exact RetB.mk rfl (by go_grown)
set_option maxRecDepth 100000 in
set_option maxHeartbeats 2000000 in
theorem getV_any (s : ByteArray) (i : Int) (w : World) (hs : s.size ≤ 4611686018427387904) : Calls Try.prog 41 #[.string s, .int .i64 i] w (RetB (getV s i).val w) := by
  have HP := fun w => Lib.hid (getP_any s (i + 1) w hs)
  unfold getV
  by_cases h0 : i < 0
  · rw [if_pos (.inl h0)]
    go_enter Try.func41, Try.ntmps41
    go_wp2
    refine bodyPost_ret (v := (gvF 4).val) (by simp [GV.val, gvF, results, Try.results41, go_sem]) rfl ?_
    exact RetB.mk rfl (by go_grown)
  obtain ⟨k, rfl⟩ := Int.eq_ofNat_of_zero_le (Int.not_lt.1 h0)
  by_cases h1 : s.size < k
  · rw [if_pos (.inr (by omega))]
    clear h0
    go_enter Try.func41, Try.ntmps41
    go_wp2
    refine bodyPost_ret (v := (gvF 4).val) (by simp [GV.val, gvF, results, Try.results41, go_sem]) rfl ?_
    exact RetB.mk rfl (by go_grown)
  rw [if_neg (by omega)]
  by_cases h2 : k = s.size
  · rw [if_pos (by omega)]
    subst h2
    clear h0 h1
    go_enter Try.func41, Try.ntmps41
    go_wp2
    refine bodyPost_ret (v := (gvF 10).val) (by simp [GV.val, gvF, results, Try.results41, go_sem]) rfl ?_
    exact RetB.mk rfl (by go_grown)
  rw [if_neg (by omega)]
  have hk : k < s.size := by omega
  have hne : ((k : Int) == (s.size : Int)) = false := ieq_f (by omega)
  have hx := one_byte s k hk
  have hbl := bN_lt s k
  rw [Int.toNat_natCast]
  clear h0 h1 h2
  generalize bN s k = b at *
  by_cases hb0 : b = 0
  · subst hb0
    rw [if_pos rfl]
    have ht : ((s.extract k (k + 1)).toList == [0]) = true := by rw [hx]; rfl
    clear hx HP
    go_enter Try.func41, Try.ntmps41
    go_wp2
    refine bodyPost_ret (v := .tuple #[.agg #[.bool true, .int .i64 0, .string ⟨#[]⟩], .int .i64 ((k : Int) + 1), .int .i64 0]) (by simp [results, Try.results41, go_sem]) rfl ?_
    exact RetB.mk rfl (by go_grown)
  rw [if_neg hb0]
  have ht0 : ((s.extract k (k + 1)).toList == [0]) = false := by
    rw [hx]
    refine beq_eq_false_iff_ne.2 fun h => hb0 ?_
    simp at h
    have := congrArg UInt8.toNat h
    simp at this; omega
  by_cases hb1 : b = 1
  · subst hb1
    rw [if_pos rfl]
    have ht : ((s.extract k (k + 1)).toList == [1]) = true := by rw [hx]; rfl
    have HG : (getP s ((k : Int) + 1)).val = .tuple #[.agg #[.bool (getP s ((k : Int) + 1)).nul, .int .i64 (getP s ((k : Int) + 1)).n, .string (getP s ((k : Int) + 1)).s], .int .i64 (getP s ((k : Int) + 1)).i, .int .i64 ((getP s ((k : Int) + 1)).e : Int)] := rfl
    rw [HG] at HP
    rw [HG]
    generalize getP s ((k : Int) + 1) = g at *
    obtain ⟨nul, n, t, i, e⟩ := g
    clear hx HG hb0
    go_enter Try.func41, Try.ntmps41
    go_wp2_with fail
    refine (HP _).out.mono ?_
    rintro e w' ⟨rfl, hb⟩
    have V := (Var3.new w (.bool false) (.int .i64 0) (.string ⟨#[]⟩) 23).step hb
    have hB := bel_trans ((Below.refl w.heap.size w).alloc (Nat.le_refl _) _) hb
    obtain ⟨k0, k1, k2, f0, f1, f2⟩ := V
    clear hb HP
    go_wp2
    have V' := Var3.set ⟨k0, k1, k2, f0, f1, f2⟩ (.bool nul) (.int .i64 n) (.string t)
    have hB' := set3_below hB (Nat.le_refl _) (.bool nul) (.int .i64 n) (.string t)
    generalize ((w'.setCell ⟨w.heap.size, 0, none⟩ (.bool nul)).setCell ⟨w.heap.size, 1, none⟩ (.int .i64 n)).setCell ⟨w.heap.size, 2, none⟩ (.string t) = w9 at *
    obtain ⟨m0, m1, m2, _, _, _⟩ := V'
    refine bodyPost_ret (v := .tuple #[.agg #[.bool nul, .int .i64 n, .string t], .int .i64 i, .int .i64 (e : Int)]) (by simp [results, Try.results41, go_sem, m0, m1, m2]) rfl ?_
    exact RetB.mk rfl hB'
  · rw [if_neg hb1]
    have ht1 : ((s.extract k (k + 1)).toList == [1]) = false := by
      rw [hx]
      refine beq_eq_false_iff_ne.2 fun h => hb1 ?_
      simp at h
      have := congrArg UInt8.toNat h
      simp at this; omega
    clear hx HP hb0 hb1
    go_enter Try.func41, Try.ntmps41
    go_wp2
    refine bodyPost_ret (v := (gvF 2).val) (by simp [GV.val, gvF, results, Try.results41, go_sem]) rfl ?_
    exact RetB.mk rfl (by go_grown)
end Go.Proofs.Ythohmngckpjlbaa
