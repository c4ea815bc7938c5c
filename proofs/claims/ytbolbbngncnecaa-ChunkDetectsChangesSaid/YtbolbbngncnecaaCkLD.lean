/- A statement of layer 12: ChunkDetectsChanges. -/
import Derived.Test.YtbolbbngncnecaaCkLB
namespace Go.CK
open Go.RowKit Go.VB Go.VarM Go.VS Go.VL Go.Proofs.Ytbolbbngncnecaa
theorem bv_of {x : Int} (h0 : 0 ≤ x) (h1 : x ≤ 255) : bv (UInt8.ofNat x.toNat) = .int .u8 x := by
  show Value.int .u8 ((UInt8.ofNat x.toNat).toNat : Int) = _
  rw [UInt8.toNat_ofNat', show x.toNat % 2 ^ 8 = x.toNat from Nat.mod_eq_of_lt (by omega), Int.toNat_of_nonneg h0]
theorem two_own (e : TypeId) (W : World) {x y : Int} (hx : 0 ≤ x ∧ x ≤ 255) (hy : 0 ≤ y ∧ y ≤ 255) : OwnB e (W.alloc (.cells #[.int .u8 x, .int .u8 y] e)).drew W.heap.size (.slice (some ⟨W.heap.size, 0, none⟩) 2 2) [UInt8.ofNat x.toNat, UInt8.ofNat y.toNat] := by
  have h := World.ownsRow_lit (base := W.heap.size) (e := e) (size := 1) W #[.int .u8 x, .int .u8 y] 2 (Nat.le_refl _) (by decide) rfl
  have e0 : [UInt8.ofNat x.toNat, UInt8.ofNat y.toNat].map bv = [.int .u8 x, .int .u8 y] := by
    show [bv _, bv _] = _
    rw [bv_of hx.1 hx.2, bv_of hy.1 hy.2]
  show World.ownsRow _ _ e 1 _ 2 ([UInt8.ofNat x.toNat, UInt8.ofNat y.toNat].map bv)
  rw [e0]
  exact h
theorem xor_zero_iff {x : Nat} {a : Int} (hx : x < 256) (h0 : 0 ≤ a) (h1 : a ≤ 255) : (UInt8.ofNat (bits .xor .u8 (x : Int) a).toNat = UInt8.ofNat x ↔ a = 0) ∧ 0 ≤ bits .xor .u8 (x : Int) a ∧ bits .xor .u8 (x : Int) a ≤ 255 := by
  obtain ⟨n, rfl⟩ := Int.eq_ofNat_of_zero_le h0
  have hn : n < 256 := by omega
  have e : bits .xor .u8 (x : Int) (n : Int) = ((x ^^^ n : Nat) : Int) := u8_xor_nat x n hx hn
  have hl : x ^^^ n < 256 := Nat.xor_lt_two_pow (n := 8) hx hn
  rw [e]
  refine ⟨?_, by omega, by omega⟩
  rw [Int.toNat_natCast]
  constructor
  · intro h
    have h2 := congrArg UInt8.toNat h
    rw [u8_small hl, u8_small hx] at h2
    have : x ^^^ (x ^^^ n) = x ^^^ x := by rw [h2]
    rw [← Nat.xor_assoc, Nat.xor_self, Nat.zero_xor] at this
    omega
  · intro h
    have : n = 0 := by omega
    subst this
    rw [Nat.xor_zero]
/-- A chunk whose bytes are right. -/
def Sound (ty : Int) (nu : Bool) (T : List UInt8) : Prop := 5 ≤ T.length ∧ T.length ≤ 330004 ∧ soundN (str T) = 0 ∧ (decC ty nu (str T)).2 = 0
theorem u8_bN (T : List UInt8) {i : Nat} (hi : i < T.length) : T[i]? = some (UInt8.ofNat (bN (str T) i)) := by
  rw [List.getElem?_eq_getElem hi, bN_str, List.getD_eq_getElem?_getD, List.getElem?_eq_getElem hi]
  congr 1
  apply UInt8.toNat_inj.1
  rw [Option.getD_some, UInt8.toNat_ofNat']
  have := UInt8.toNat_lt T[i]
  omega
/-- Two neighbouring bytes changed, or not. -/
theorem changed {ty : Int} {nu : Bool} {T : List UInt8} (hs : Sound ty nu T) (hT : okT ty = true) {i : Nat} (hi : i + 1 < T.length) {a b : Int} (ha : 0 ≤ a ∧ a ≤ 255) (hb : 0 ≤ b ∧ b ≤ 255) {U : ByteArray}
    (hU : U = str (T.take i ++ [UInt8.ofNat (bits .xor .u8 (bN (str T) i : Nat) a).toNat, UInt8.ofNat (bits .xor .u8 (bN (str T) (i + 1) : Nat) b).toNat] ++ T.drop (i + 2))) :
    (decC ty nu U).2 = if a = 0 ∧ b = 0 then 0 else 9 := by
  obtain ⟨h5, _, h0, hd⟩ := hs
  have hx := u8_bN T (i := i) (by omega)
  have hy := u8_bN T (i := i + 1) hi
  obtain ⟨f1, _⟩ := xor_zero_iff (bN_lt (str T) i) ha.1 ha.2
  obtain ⟨f2, _⟩ := xor_zero_iff (bN_lt (str T) (i + 1)) hb.1 hb.2
  by_cases hab : a = 0 ∧ b = 0
  · rw [if_pos hab]
    have e1 := f1.2 hab.1
    have e2 := f2.2 hab.2
    rw [e1, e2] at hU
    have hTT : T.take i ++ [UInt8.ofNat (bN (str T) i), UInt8.ofNat (bN (str T) (i + 1))] ++ T.drop (i + 2) = T := by
      have t1 : T.take (i + 1) = T.take i ++ [UInt8.ofNat (bN (str T) i)] := by rw [List.take_add_one, hx]; rfl
      have t2 : T.take (i + 2) = T.take (i + 1) ++ [UInt8.ofNat (bN (str T) (i + 1))] := by rw [List.take_add_one, hy]; rfl
      rw [show T.take i ++ [UInt8.ofNat (bN (str T) i), UInt8.ofNat (bN (str T) (i + 1))] = T.take (i + 2) from by rw [t2, t1, List.append_assoc]; rfl, List.take_append_drop]
    rw [hTT] at hU
    rw [hU]; exact hd
  · rw [if_neg hab]
    have h9 := sound_change h5 h0 hi hx hy (x' := UInt8.ofNat (bits .xor .u8 (bN (str T) i : Nat) a).toNat) (y' := UInt8.ofNat (bits .xor .u8 (bN (str T) (i + 1) : Nat) b).toNat) (fun h => hab ⟨f1.1 h.1, f2.1 h.2⟩)
    rw [hU, decC_bad hT (by rw [h9]; decide), h9]
end Go.CK
namespace Go.Proofs.Ytbolbbngncnecaa
open Go.RowKit Go.VB Go.VarM Go.BP Go.RL Go.VS Go.VL Go.DI Go.CK Go.NU Go.KV Go.ChangeShapes Go.WideShapes Go.ChangeAt
open Go.ChangeMaps (open_string)
set_option linter.constructorNameAsVariable false
set_option maxRecDepth 100000 in
set_option maxHeartbeats 4000000 in
theorem chunkDetectsChanges_lifted (os : Os) (started : os.Started) (H : Type) (enc : TypeId × Value → H) :
    ReturnsInHanded {} Try.checked os 7 .any (Rows.chunkDetectsChangesSpec.pre6 enc Try.prog Try.f7 Rows.chunkDetectsChangesRow.domain false) (Rows.chunkDetectsChangesSpec.post enc Try.prog Try.f7 false true false false) := by
  refine law_lifted (C := Try.checked) (tb := 4) started Try.own Try.laidOut (by kernel_rfl) Try.func7
    (ChangeSpec.witness6 (enc := enc) (C := Try.checked) false ⟨#[], #[.int .i64 0, .bool false, .slice none 0 0, .int .i64 0, .int .u8 0, .int .u8 0], []⟩ 8 (by kernel_rfl) (by kernel_rfl) (by kernel_rfl) (by kernel_rfl))
    rfl rfl Try.underlying4 (by kernel_rfl) (fun ds h => ?_) (fun W base args ds p hval0 hA0 hsz0 hlt => ?_)
  · have h' : ds.length = Try.f7.params.toList.length := h
    rw [Try.params7] at h'
    match ds, h' with
    | [_, _, _, _, _, _], _ => rfl
  · have hval : ∀ (j : Nat) t v, Try.f7.params[j]? = some t → args[j]? = some v → Value.okWide Try.prog W .any base t v := hval0
    have hA : DataW.TrodAll enc Try.prog W 0 (fun _ => true) true Try.f7.params.toList args.toList ds p := hA0
    have hsz : (DataW.weightsEach Try.prog Try.f7.params.toList ds).all (· ≤ reachBytes) = true := hsz0
    rw [Try.params7] at hA hval hsz
    clear hA0 hval0 hsz0
    obtain ⟨v0, vs0, d0, ds0, p0, q0, hargs, rfl, rfl, h0, r0⟩ := trodAll_cons hA
    obtain ⟨v1, vs1, d1, ds1, p1, q1, rfl, rfl, rfl, h1, r1⟩ := trodAll_cons r0
    obtain ⟨v2, vs2, d2, ds2, p2, q2, rfl, rfl, rfl, h2, r2⟩ := trodAll_cons r1
    obtain ⟨v3, vs3, d3, ds3, p3, q3, rfl, rfl, rfl, h3, r3⟩ := trodAll_cons r2
    obtain ⟨v4, vs4, d4, ds4, p4, q4, rfl, rfl, rfl, h4, r4⟩ := trodAll_cons r3
    obtain ⟨v5, vs5, d5, ds5, p5, q5, rfl, rfl, rfl, h5, r5⟩ := trodAll_cons r4
    obtain ⟨rfl, rfl, rfl⟩ := trodAll_nil r5
    obtain rfl : args = #[v0, v1, v2, v3, v4, v5] := by cases args; simp_all
    obtain ⟨t, rfl, rfl, rfl, wt⟩ := open_int Try.underlying3 (hval 0 3 v0 rfl rfl) h0
    obtain ⟨null, rfl, rfl, rfl⟩ := open_bool Try.underlying4 (hval 1 4 v1 rfl rfl) h1
    obtain ⟨zm, rm, wm, bm⟩ := open_rdI Try.underlying32 Try.underlying3 (by kernel_rfl) (hval 2 32 v2 rfl rfl) h2 hsz (j := 2) rfl rfl
    obtain ⟨at', rfl, rfl, rfl, wat'⟩ := open_int Try.underlying3 (hval 3 3 v3 rfl rfl) h3
    obtain ⟨a, rfl, rfl, rfl, wa⟩ := open_int Try.underlying5 (hval 4 5 v4 rfl rfl) h4
    obtain ⟨b, rfl, rfl, rfl, wb⟩ := open_int Try.underlying5 (hval 5 5 v5 rfl rfl) h5
    change Calls Try.prog 7 #[.int .i64 t, .bool null, v2, .int .i64 at', .int .u8 a, .int .u8 b] W (RetB (.bool true) W)
    clear bm
    have HCOL := fun w => Lib.hid (column_any t null w wt)
    have hty := pick_ty t
    have hT := okT_pick t
    generalize 1 + pickN t 5 = ty at *
    have HKV := fun w r => Lib.hid (kvals_any w v2 zm ⟨#[120]⟩ ty 0 null r wm hty)
    have ha := bounds_u8 wa
    have hb := bounds_u8 wb
    clear wa wb hty
    go_enter Try.func7, Try.ntmps7
    go_wp2_with fail
    (with_reducible refine (HCOL _).out.mono ?_); rintro e w1 ⟨rfl, hb1⟩
    have HB1 := Lib.hid hb1
    have hba := (Below.refl w1.heap.size w1).alloc (Nat.le_refl _) (.cells #[.string ⟨#[120]⟩, .int .i64 ty, .int .i64 0, .bool null] 26)
    have HV := Lib.hid (Var4.new w1 (.string ⟨#[120]⟩) (.int .i64 ty) (.int .i64 0) (.bool null) 26)
    have HBA := Lib.hid hba
    have HSZ := Lib.hid (show (w1.alloc (.cells #[.string ⟨#[120]⟩, .int .i64 ty, .int .i64 0, .bool null] 26)).heap.size = w1.heap.size + 1 by simp)
    have hrm := (rm.step hb1).step hba
    have HVV := Lib.hid (show ∀ w, Below (w1.alloc (.cells #[.string ⟨#[120]⟩, .int .i64 ty, .int .i64 0, .bool null] 26)).heap.size (w1.alloc (.cells #[.string ⟨#[120]⟩, .int .i64 ty, .int .i64 0, .bool null] 26)) w → Var4 w w1.heap.size (.string ⟨#[120]⟩) (.int .i64 ty) (.int .i64 0) (.bool null) from fun w hb => HV.out.below hb (by rw [HSZ.out]; exact Nat.lt_succ_self _))
    have HRM := Lib.hid hrm
    have HA := Lib.hid ha; have HBB := Lib.hid hb; have HT := Lib.hid hT
    clear hb1 hba rm wm HCOL HV hrm ha hb hT
    obtain ⟨v0, v1, v2', v3⟩ := HVV.out (w1.alloc (.cells #[.string ⟨#[120]⟩, .int .i64 ty, .int .i64 0, .bool null] 26)) (Below.refl _ _)
    go_upto_region 2 with fail
    go_cut [14] from 23 to 30 (fun sv w' => ∃ T : List UInt8, sv = .string (str T) ∧ Sound ty null T ∧ Below (w1.alloc (.cells #[.string ⟨#[120]⟩, .int .i64 ty, .int .i64 0, .bool null] 26)).heap.size (w1.alloc (.cells #[.string ⟨#[120]⟩, .int .i64 ty, .int .i64 0, .bool null] 26)) w')
    case first =>
      have hz0 : Below (w1.alloc (.cells #[.string ⟨#[120]⟩, .int .i64 ty, .int .i64 0, .bool null] 26)).heap.size (w1.alloc (.cells #[.string ⟨#[120]⟩, .int .i64 ty, .int .i64 0, .bool null] 26)) (w1.alloc (.cells #[.string ⟨#[120]⟩, .int .i64 ty, .int .i64 0, .bool null] 26)).drew := (Below.refl _ _).drew
      go_region_with (first
        | (go_at_call 13; (with_reducible refine (HKV _ ?_).out.mono ?_); (first | (with_reducible exact HRM.out) | exact HRM.out.step hz0); rintro e w3 ⟨vx, lx, rfl, hown, hlx, hcx, hbx, hb3⟩; have hrx := hown.read; have hB3 : Below (w1.alloc (.cells #[.string ⟨#[120]⟩, .int .i64 ty, .int .i64 0, .bool null] 26)).heap.size (w1.alloc (.cells #[.string ⟨#[120]⟩, .int .i64 ty, .int .i64 0, .bool null] 26)) w3 := bel_trans hz0 hb3; have hv3 := HVV.out w3 hB3; obtain ⟨q0, q1, q2, q3⟩ := hv3; have HKEEP := Lib.hid (And.intro hlx (And.intro hcx hbx)); clear hown hlx hcx)
        | (go_at_call 14; (with_reducible refine (rencc_any ⟨#[120]⟩ ty 0 null vx lx w3 hrx hbx).mono ?_); rintro e w4 ⟨rfl, hb4⟩))
      all_goals
        obtain ⟨hlx, hcx, -⟩ := HKEEP.out
        have henc : encE ty null lx = 0 := encE_none HT.out (by omega) hcx
        obtain ⟨k, k1, k4, ku, hbest⟩ := best_nat ty lx
        have hok := ok_of HT.out hcx hbx
        have HSND := Lib.hid (show Sound ty null (buildB ty k lx) from ⟨build_len _ _ _, build_le (by omega) hok, sound_of_build _ _ _, by rw [decC_build HT.out ku (by omega) hcx hbx]⟩)
        rw [encS_ok henc, henc, hbest]
        have HBF := Lib.hid (bel_trans hB3 hb4)
        clear henc hbest hok hcx hbx hlx hrx hb3 hb4 hB3 k1 k4 ku HKEEP
        go_wp2_with fail
        go_meet
        case rel => exact ⟨_, rfl, HSND.out, HBF.out⟩
    case rest =>
      obtain ⟨T, rfl, hsd, hB2⟩ := hcut
      have HSD := Lib.hid hsd
      obtain ⟨h5, hle, -, -⟩ := hsd
      have hCH := Lib.hid (fun (i : Nat) (hi : i + 1 < T.length) (U : ByteArray) hU => changed HSD.out HT.out hi HA.out HBB.out (U := U) hU)
      obtain ⟨ha0, ha1⟩ := HA.out
      obtain ⟨hb0, hb1⟩ := HBB.out
      have hsT := str_size T
      have hTS : (str T).data.toList = T := rfl
      generalize hS : str T = S at *
      have HS := Lib.hid hS; have HTS := Lib.hid hTS; have HSL := Lib.hid hsT
      have h5S : 5 ≤ S.size := by omega
      have hi330 : S.size ≤ 330004 := by omega
      clear hS hTS hsT h5 hle
      have hsz1 : wrap64 ((S.size : Int) - 1) = (S.size : Int) - 1 := by unfold wrap64; omega
      have HPk := fun w => Lib.hid (pick_at at' ((S.size : Int) - 1) w wat' (by omega) (by omega))
      obtain ⟨p0, p1⟩ := pickN_bd at' (n := (S.size : Int) - 1) (by omega)
      generalize pickN at' ((S.size : Int) - 1) = i at *
      obtain ⟨i, rfl⟩ := Int.eq_ofNat_of_zero_le p0
      have hi2 : i + 2 ≤ S.size := by omega
      have HB2 := Lib.hid hB2
      clear wat' p0 p1 hB2 v0 v1 v2' v3 HKV HRM
      go_wp2_with fail
      (with_reducible refine (HPk _).out.mono ?_); rintro e w' ⟨rfl, rfl⟩
      clear HPk
      have hg := get_bN S
      have hx1 := (xor_zero_iff (bN_lt S i) ha0 ha1).2
      have hy1 := (xor_zero_iff (bN_lt S (i + 1)) hb0 hb1).2
      obtain ⟨X, hX⟩ : ∃ X, S.extract 0 i = X := ⟨_, rfl⟩
      obtain ⟨Z, hZ⟩ : ∃ Z, S.extract (i + 2) S.size = Z := ⟨_, rfl⟩
      have hXs : X.size ≤ 330004 := by rw [← hX, ByteArray.size_extract]; omega
      have hZs : Z.size ≤ 330004 := by rw [← hZ, ByteArray.size_extract]; omega
      have hU := hCH.out i (by have := HSL.out; omega) (X ++ str [UInt8.ofNat (bits .xor .u8 (bN S i : Nat) a).toNat, UInt8.ofNat (bits .xor .u8 (bN S (i + 1) : Nat) b).toNat] ++ Z) (by
        rw [← hX, ← hZ, extract_str, extract_str, HTS.out, List.drop_zero, str_append, str_append, Nat.sub_zero, List.take_of_length_le (l := T.drop (i + 2)) (by rw [List.length_drop, HSL.out]; omega)])
      have hcv := run_string_of_own (P := Try.prog) 46 9 5 Try.underlying46 Try.underlying5 Try.underlying9 (two_own 5 wc hx1 hy1)
      obtain ⟨xa, hxa⟩ : ∃ x, bits .xor .u8 (bN S i : Nat) a = x := ⟨_, rfl⟩
      obtain ⟨yb, hyb⟩ : ∃ y, bits .xor .u8 (bN S (i + 1) : Nat) b = y := ⟨_, rfl⟩
      rw [hxa, hyb] at hU hcv
      obtain ⟨R, hR⟩ : ∃ R : Nat, (if a = 0 ∧ b = 0 then 0 else 9) = R := ⟨_, rfl⟩
      rw [hR] at hU
      have HRR := Lib.hid hR
      clear hR
      have hY : (str [UInt8.ofNat xa.toNat, UInt8.ofNat yb.toNat]).size = 2 := by rw [str_size]; rfl
      generalize str [UInt8.ofNat xa.toNat, UInt8.ofNat yb.toNat] = Y at *
      have a1 : ∀ w, (Op.stringOp .add X Y).run Try.prog w = .ok (.string (X ++ Y)) w := fun w => run_string_add_sum w _ _ (by omega)
      have a2 : ∀ w, (Op.stringOp .add (X ++ Y) Z).run Try.prog w = .ok (.string (X ++ Y ++ Z)) w := fun w => run_string_add_sum w _ _ (by rw [ByteArray.size_append]; omega)
      have hUs : (X ++ Y ++ Z).size ≤ 140737488351232 := by rw [ByteArray.size_append, ByteArray.size_append]; omega
      have HDEC := fun w => Lib.hid (cdecode_any ⟨#[120]⟩ ty 0 null (X ++ Y ++ Z) w hUs)
      rw [hU] at HDEC
      have q1 : (0 : Int) ≤ (i : Int) := by omega
      have q2 : (i : Int) ≤ (S.size : Int) := by omega
      have q2b : (i : Int) < (S.size : Int) := by omega
      have q3 : (i : Int) + 1 < (S.size : Int) := by omega
      have q3n : i + 1 < S.size := by omega
      have q3m : i < S.size := by omega
      have q4 : (i : Int) + 2 ≤ (S.size : Int) := by omega
      have q5 : IntKind.i64.wrap ((i : Int) + 1) = (i : Int) + 1 := IntWalk.i64_in _ ⟨by omega, by omega⟩
      have q6 : IntKind.i64.wrap ((i : Int) + 2) = (i : Int) + 2 := IntWalk.i64_in _ ⟨by omega, by omega⟩
      have HXY := Lib.hid (And.intro ha0 (And.intro ha1 (And.intro hb0 hb1)))
      clear hXs hZs hU hx1 hy1 hY hUs hi2 h5S hi330 ha0 ha1 hb0 hb1 hsz1
      go_wp2_with fail
      go_region
      have hbz : Below (w1.alloc (.cells #[.string ⟨#[120]⟩, .int .i64 ty, .int .i64 0, .bool null] 26)).heap.size (w1.alloc (.cells #[.string ⟨#[120]⟩, .int .i64 ty, .int .i64 0, .bool null] 26)) (wc.alloc (.cells #[.int .u8 xa, .int .u8 yb] 5)).drew := (HB2.out.alloc HB2.out.size _).drew
      generalize (wc.alloc (.cells #[.int .u8 xa, .int .u8 yb] 5)).drew = w5 at hbz ⊢
      clear a1 a2 hcv q1 q2 q2b q3 q3n q3m q4 q5 q6 hX hZ hxa hyb hg
      generalize X ++ Y ++ Z = U at *
      obtain ⟨v0, v1, v2', v3⟩ := HVV.out _ hbz
      go_wp2_with fail
      (with_reducible refine (HDEC _).out.mono ?_); rintro e w6 ⟨vy, rfl, hry, hb6⟩
      clear HDEC hry v0 v1 v2' v3
      have hb26 := bel_trans hbz hb6
      clear hb6 hbz
      go_wp2_with fail
      (with_reducible refine (awake12_any _).mono ?_); rintro e w7 ⟨rfl, hb7⟩
      have hB := bel_trans (bel_trans HB1.out HBA.out) (bel_trans hb26 hb7)
      clear hb26 hb7
      by_cases e1 : a = 0
      · by_cases e2 : b = 0
        · obtain rfl : R = 0 := by rw [← HRR.out, if_pos ⟨e1, e2⟩]
          have g1 := ieq_t e1
          have g2 := ieq_t e2
          clear e1 e2
          go_wp2
          go_ret
          exact RetB.mk rfl hB
        · obtain rfl : R = 9 := by rw [← HRR.out, if_neg (fun h => e2 h.2)]
          have g1 := ieq_t e1
          have g2 := ieq_f e2
          clear e1 e2
          go_wp2
          go_ret
          exact RetB.mk rfl hB
      · obtain rfl : R = 9 := by rw [← HRR.out, if_neg (fun h => e1 h.1)]
        have g1 := ieq_f e1
        clear e1
        go_wp2
        go_ret
        exact RetB.mk rfl hB
theorem chunkDetectsChanges_holds : Rows.ChunkDetectsChangesSaid :=
  OpenClaim.holds_of_wide 7 Try.f7 rfl rfl rfl rfl rfl rfl rfl ⟨rfl, rfl, rfl, rfl, rfl⟩ rfl rfl rfl rfl rfl (by kernel_rfl) Try.func7 (by kernel_rfl)
    (of_decide_eq_true (by kernel_rfl)) (by unfold Func.isWrapper; first | (rw [if_pos (by decide +kernel)]; kernel_rfl) | (rw [if_neg (by decide +kernel)]; exact ⟨rfl, rfl⟩))
    (fun os started H enc _ => chunkDetectsChanges_lifted os started H enc)
end Go.Proofs.Ytbolbbngncnecaa
