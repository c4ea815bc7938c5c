/- SchemaTextMutations: Parse returns the specified results for the text of a valid schema in which a byte has been replaced, or which is cut off. No condition. -/
import Derived.Test.YtfkdenlpailmeaaSchK
import Derived.Test.YtfkdenlpailmeaaSchG
import Derived.Test.YtfkdenlpailmeaaSchF
namespace Go.SC
open Go.RowKit Go.VB Go.VL
theorem kname (n : Nat) (h : n < 4) : nameS (str [UInt8.ofNat (97 + n)]) = true := by
  match n, h with
  | 0, _ => decide +kernel
  | 1, _ => decide +kernel
  | 2, _ => decide +kernel
  | 3, _ => decide +kernel
theorem kname_ne {n m : Nat} (hn : n < 4) (hm : m < 4) (h : str [UInt8.ofNat (97 + n)] = str [UInt8.ofNat (97 + m)]) : n = m := by
  have h1 := str_inj h
  simp only [List.cons.injEq, and_true] at h1
  have h2 := congrArg UInt8.toNat h1
  rw [UInt8.toNat_ofNat', UInt8.toNat_ofNat'] at h2
  omega
/-- keep's schemas are valid. -/
theorem kok_chk {cs : List Col} {key : Int} (h : KOK cs key) : chkS cs key = 0 := by
  obtain ⟨h1, h4, hk, k0, k1⟩ := h
  rw [chkS_end (by omega) (by omega), if_neg (by omega)]
  intro i hi
  obtain ⟨a, b, c, d, e⟩ := hk i hi
  have hn : nameS (cs.getD i col0).nm = true := by rw [a]; exact kname _ (by omega)
  rw [chkCol_scale hn ?_ b, if_neg (by omega)]
  rintro ⟨j, hj, he⟩
  obtain ⟨a', _⟩ := hk j (by omega)
  rw [a, a'] at he
  have := kname_ne (by omega) (by omega) he
  omega
theorem fmtL_len {cs : List Col} {key : Int} (h : chkS cs key = 0) : 1 ≤ (fmtL cs key).length ∧ (fmtL cs key).length ≤ 600 := by
  obtain ⟨_, h12, _, k0, k1⟩ := chkS_ok h
  have h1 := txC_len h cs.length (Nat.le_refl _)
  rw [List.take_length] at h1
  have h2 := (cv_of h (i := key.toNat) (by omega)).nm_size.2
  have h3 : (cs.getD key.toNat col0).nm.data.toList.length = (cs.getD key.toNat col0).nm.size := size_list _
  unfold fmtL keyL
  simp only [List.length_append, List.length_cons, List.length_nil]
  omega
end Go.SC
namespace Go.Proofs.Ytfkdenlpailmeaa
open Go.RowKit Go.VB Go.VL Go.SC Go.ChangeShapes Go.WideShapes Go.ChangeAt
open Go.ChangeMaps (open_string)
set_option linter.constructorNameAsVariable false
theorem parses_at3 (s : ByteArray) (w : World) : Calls Try.prog 9 #[.string s] w (RetB (.bool true) w) := parses_any s.data.toList w
set_option maxRecDepth 100000 in
set_option maxHeartbeats 8000000 in
theorem muts_walk (v : Value) (zl : List Int) (p c : Int) (b : Bool) (W : World) (rl : RdI .i64 W W.heap.size v zl) (wl : ∀ z ∈ zl, (Lit.int .i64 z).wf = true) (wp : (Lit.int .i64 p).wf = true) (wc : (Lit.int .u8 c).wf = true) :
    Calls Try.prog 5 #[v, .int .i64 p, .int .u8 c, .bool b] W (RetB (.bool true) W) := by
  have hAw := fun w => Lib.hid (awake7_any w)
  have HPs := fun s w => Lib.hid (parses_at3 s w)
  have HK := Lib.hid (kSch_any W v zl rl wl)
  obtain ⟨c0, c1⟩ := bounds_u8 wc
  obtain ⟨A, cap, rfl, _⟩ := rl
  clear wl wc
  go_enter Try.func5, Try.ntmps5
  go_wp2_with fail
  refine HK.out.mono ?_
  rintro e w1 ⟨hb1, v1, cs, key, rfl, ho1, hko⟩
  have hchk := kok_chk hko
  have HF := Lib.hid (rformat_any cs v1 key w1 ho1.read)
  rw [FT_ok hchk, hchk] at HF
  obtain ⟨hf1, hf2⟩ := fmtL_len hchk
  clear HK hko hchk
  obtain ⟨A1, cap1, rfl, _⟩ := ho1.read
  clear ho1
  generalize fmtL cs key = T at *
  have hsz : (str T).size = T.length := size_of T
  have hs1 : 1 ≤ (str T).size := by omega
  have hs2 : (str T).size ≤ 600 := by omega
  clear hsz hf1 hf2
  generalize str T = S at *
  have HPk := fun w => Lib.hid (pick_at p (S.size : Int) w wp (by omega) (by omega))
  obtain ⟨p0, p1⟩ := pickN_bd p (n := (S.size : Int)) (by omega)
  generalize pickN p (S.size : Int) = k at *
  obtain ⟨k, rfl⟩ := Int.eq_ofNat_of_zero_le p0
  clear wp
  go_wp2_with fail
  refine HF.out.mono ?_
  rintro e w2 ⟨rfl, hb2⟩
  have hB2 := bel_trans hb1 hb2
  clear HF hb1 hb2
  go_wp2_with fail
  refine (HPk _).out.mono ?_
  rintro e w' ⟨rfl, rfl⟩
  clear HPk
  cases b with
  | true =>
    go_wp2_with fail
    refine (hAw _).out.mono ?_
    rintro e w3 ⟨rfl, hb3⟩
    go_wp2_with fail
    refine (HPs _ _).out.mono ?_
    rintro e w4 ⟨rfl, hb4⟩
    go_wp2_with fail
    go_ret
    exact RetB.mk rfl (bel_trans (bel_trans hB2 hb3) hb4)
  | false =>
    obtain ⟨X, hX⟩ : ∃ X, S.extract 0 k = X := ⟨_, rfl⟩
    obtain ⟨Z, hZ⟩ : ∃ Z, S.extract (k + 1) S.size = Z := ⟨_, rfl⟩
    have hXs : X.size ≤ 600 := by rw [← hX, ByteArray.size_extract]; omega
    have hZs : Z.size ≤ 600 := by rw [← hZ, ByteArray.size_extract]; omega
    have a1 : ∀ w, (Op.stringOp .add X (str [UInt8.ofNat c.toNat])).run Try.prog w = .ok (.string (X ++ str [UInt8.ofNat c.toNat])) w := fun w => run_string_add_sum w _ _ (by rw [str_size]; simp; omega)
    have a2 : ∀ w, (Op.stringOp .add (X ++ str [UInt8.ofNat c.toNat]) Z).run Try.prog w = .ok (.string (X ++ str [UInt8.ofNat c.toNat] ++ Z)) w := fun w => run_string_add_sum w _ _ (by rw [ByteArray.size_append, str_size]; simp; omega)
    have hconv := run_string1 (P := Try.prog) 22 9 5 Try.underlying22 Try.underlying5 Try.underlying9
    have hconv2 := fun W m => hconv W c m
    have q1 : (0 : Int) ≤ (k : Int) := by omega
    have q2 : (k : Int) ≤ (S.size : Int) := by omega
    have q3 : (0 : Int) ≤ (k : Int) + 1 := by omega
    have q4 : (k : Int) + 1 ≤ (S.size : Int) := by omega
    have q5 : IntKind.i64.wrap ((k : Int) + 1) = (k : Int) + 1 := IntWalk.i64_in _ ⟨by omega, by omega⟩
    clear hconv hXs hZs p0 p1 hs1 hs2 c0 c1
    generalize str [UInt8.ofNat c.toNat] = Y at *
    go_wp2_with fail
    go_region_with (first
      | (go_at_call 6; (with_reducible refine (hAw _).out.mono ?_); rintro e w3 ⟨rfl, hb3⟩)
      | (go_at_call 9; (with_reducible refine (HPs _ _).out.mono ?_); rintro e w4 ⟨rfl, hb4⟩))
    all_goals
      go_wp2_with fail
      go_ret
      have h3 := bel_trans hB2.drew hb3
      exact RetB.mk rfl (bel_trans (h3.alloc h3.size _) hb4)
set_option maxRecDepth 100000 in
set_option maxHeartbeats 4000000 in
theorem schemaTextMutations_lifted (os : Os) (started : os.Started) (H : Type) (enc : TypeId × Value → H) :
    ReturnsInHanded {} Try.checked os 5 .any (Rows.schemaTextMutationsSpec.pre6 enc Try.prog Try.f5 Rows.schemaTextMutationsRow.domain false) (Rows.schemaTextMutationsSpec.post enc Try.prog Try.f5 false true false false) := by
  refine law_lifted (C := Try.checked) (tb := 4) started Try.own Try.laidOut (by kernel_rfl) Try.func5
    (ChangeSpec.witness6 (enc := enc) (C := Try.checked) false ⟨#[], #[.slice none 0 0, .int .i64 0, .int .u8 0, .bool false], []⟩ 8 (by kernel_rfl) (by kernel_rfl) (by kernel_rfl) (by kernel_rfl))
    rfl rfl Try.underlying4 (by kernel_rfl) (fun ds h => ?_) (fun W base args ds p hval0 hA0 hsz0 hlt => ?_)
  · have h' : ds.length = Try.f5.params.toList.length := h
    rw [Try.params5] at h'
    match ds, h' with
    | [_, _, _, _], _ => rfl
  · have hval : ∀ (j : Nat) t v, Try.f5.params[j]? = some t → args[j]? = some v → Value.okWide Try.prog W .any base t v := hval0
    have hA : DataW.TrodAll enc Try.prog W 0 (fun _ => true) true Try.f5.params.toList args.toList ds p := hA0
    have hsz : (DataW.weightsEach Try.prog Try.f5.params.toList ds).all (· ≤ reachBytes) = true := hsz0
    rw [Try.params5] at hA hval hsz
    clear hA0 hval0 hsz0
    obtain ⟨v0, vs0, d0, ds0, p0, q0, hargs, rfl, rfl, h0, r0⟩ := trodAll_cons hA
    obtain ⟨v1, vs1, d1, ds1, p1, q1, rfl, rfl, rfl, h1, r1⟩ := trodAll_cons r0
    obtain ⟨v2, vs2, d2, ds2, p2, q2, rfl, rfl, rfl, h2, r2⟩ := trodAll_cons r1
    obtain ⟨v3, vs3, d3, ds3, p3, q3, rfl, rfl, rfl, h3, r3⟩ := trodAll_cons r2
    obtain ⟨rfl, rfl, rfl⟩ := trodAll_nil r3
    obtain rfl : args = #[v0, v1, v2, v3] := by cases args; simp_all
    obtain ⟨zl, rl, wl, bl⟩ := open_rdI Try.underlying28 Try.underlying3 (by kernel_rfl) (hval 0 28 v0 rfl rfl) h0 hsz (j := 0) rfl rfl
    obtain ⟨p, rfl, rfl, rfl, wp⟩ := open_int Try.underlying3 (hval 1 3 v1 rfl rfl) h1
    obtain ⟨c, rfl, rfl, rfl, wc⟩ := open_int Try.underlying5 (hval 2 5 v2 rfl rfl) h2
    obtain ⟨b, rfl, rfl, rfl⟩ := open_bool Try.underlying4 (hval 3 4 v3 rfl rfl) h3
    change Calls Try.prog 5 #[v0, .int .i64 p, .int .u8 c, .bool b] W (RetB (.bool true) W)
    exact muts_walk v0 zl p c b W rl wl wp wc
theorem schemaTextMutations_holds : Rows.SchemaTextMutationsSaid :=
  OpenClaim.holds_of_wide 5 Try.f5 rfl rfl rfl rfl rfl rfl rfl ⟨rfl, rfl, rfl, rfl, rfl⟩ rfl rfl rfl rfl rfl (by kernel_rfl) Try.func5 (by kernel_rfl)
    (of_decide_eq_true (by kernel_rfl)) (by unfold Func.isWrapper; first | (rw [if_pos (by decide +kernel)]; kernel_rfl) | (rw [if_neg (by decide +kernel)]; exact ⟨rfl, rfl⟩))
    (fun os started H enc _ => schemaTextMutations_lifted os started H enc)
end Go.Proofs.Ytfkdenlpailmeaa
