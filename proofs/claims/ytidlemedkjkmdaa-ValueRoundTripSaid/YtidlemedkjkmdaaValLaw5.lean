/- ValueRoundTrip: Get returns the value that was put, at any place of a string, and the index after it. No condition. -/
import Derived.Test.YtidlemedkjkmdaaValK
import Derived.Test.YtidlemedkjkmdaaValP
import Derived.Test.YtidlemedkjkmdaaValT
namespace Go.Proofs.Ytidlemedkjkmdaa
open Go.RowKit Go.VB Go.VL Go.VarM Go.ChangeShapes Go.WideShapes Go.ChangeAt
open Go.ChangeMaps (open_string)
set_option linter.constructorNameAsVariable false
theorem GV.spell2 (nul : Bool) (n : Int) (s : ByteArray) (i : Int) : (GV.mk nul n s i 0).val = .tuple #[(.agg #[.bool nul, .int .i64 n, .string s]), .int .i64 i, .int .i64 0] := rfl
theorem putV_len (nul : Bool) (n : Int) (s : ByteArray) (hn : (Lit.int .i64 n).wf = true) (hs : s.size ≤ 140737488355328) : (putV nul n s).length ≤ 21 + s.size := by
  obtain ⟨n1, n2⟩ := bounds_i64 hn
  obtain ⟨z1, z2⟩ := zig_bd n1 n2
  cases nul
  · have l1 := putL_len10 (n := (zigN n).toNat) (by omega)
    have l2 := putL_len10 (n := s.size) (by omega)
    show ([1] ++ putL (zigN n).toNat ++ putL s.size ++ s.data.toList).length ≤ _
    simp only [List.length_append, size_list, List.length_cons, List.length_nil]
    omega
  · show 1 ≤ _
    omega
set_option maxRecDepth 100000 in
set_option maxHeartbeats 8000000 in
theorem round_walk (t : Int) (v1 : Value) (zl : List Int) (n : Int) (sx before behind : ByteArray) (W : World) (wt : (Lit.int .i64 t).wf = true) (rl : RdI .i64 W W.heap.size v1 zl) (wl : ∀ z ∈ zl, (Lit.int .i64 z).wf = true)
    (wn : (Lit.int .i64 n).wf = true) (z1 : sx.size ≤ 140737488351232) (z2 : before.size ≤ 140737488351232) (z3 : behind.size ≤ 140737488351232) :
    Calls Try.prog 8 #[.int .i64 t, v1, .int .i64 n, .string sx, .string before, .string behind] W (RetB (.bool true) W) := by
  have HC := fun w => Lib.hid (col_any t 1 true w wt (by decide))
  have hct := ctyp_bd t
  have hAw := fun w => Lib.hid (awakeV_any w)
  generalize ctyp t = dty at *
  generalize cscale t 1 = dsc at *
  have HX := fun (w : World) (hB : Below W.heap.size W w) => Lib.hid (kValue_any w v1 zl xs dty dsc true ((rl.below hB).more hB.size) wl hct)
  generalize xs = X at *
  clear wt rl wl
  go_enter Try.func8, Try.ntmps8
  go_wp2_with fail
  refine (HC _).out.mono ?_
  rintro e w1 ⟨rfl, hB⟩
  clear HC
  go_wp2_with fail
  refine (HX _ hB).out.mono ?_
  rintro e w2 ⟨vb, vn, vs, rfl, hv, hb⟩
  replace hB := bel_trans hB hb
  clear HX hb
  have hv0 : vb = true → vn = 0 ∧ vs = ⟨#[]⟩ := fun h => by subst h; exact vok_true hct hv.1
  have wvn := hv.1.2.1
  have zvs := hv.1.2.2
  clear hv hct
  have HP := fun w => Lib.hid (putV_any vb vn vs w wvn (by omega))
  have HQ := fun w => Lib.hid (putV_any false n sx w wn z1)
  have lp := putV_len vb vn vs wvn (by omega)
  have lq := putV_len false n sx wn (by omega)
  have G1 := getV_put before.data.toList (putV false n sx ++ behind.data.toList) vb vn vs wvn (by omega) hv0
  have G2 := getV_put (before.data.toList ++ putV vb vn vs) behind.data.toList false n sx wn (by omega) (fun h => by cases h)
  clear hv0
  generalize putV vb vn vs = p at *
  generalize putV false n sx = q at *
  obtain ⟨S, hS⟩ : ∃ S, S = str (before.data.toList ++ (p ++ (q ++ behind.data.toList))) := ⟨_, rfl⟩
  have hS2 : str (before.data.toList ++ p ++ (q ++ behind.data.toList)) = S := by rw [hS, List.append_assoc]
  rw [← hS, size_list] at G1
  rw [hS2] at G2
  have hSz : S.size ≤ 4611686018427387904 := by
    rw [hS, str_size]; simp only [List.length_append, size_list]; omega
  have hl2 : ((before.data.toList ++ p).length : Int) = (before.size : Int) + p.length := by rw [List.length_append, size_list]; omega
  rw [hl2] at G2
  have HG1 := fun w => getV_any S (before.size : Int) w hSz
  have HG2 := fun w => getV_any S ((before.size : Int) + p.length) w hSz
  rw [G1, GV.spell2] at HG1
  rw [G2, GV.spell2] at HG2
  have zp : (str p).size = p.length := str_size p
  have zq : (str q).size = q.length := str_size q
  have a1 : ∀ w, (Op.stringOp .add before (str p)).run Try.prog w = .ok (.string (before ++ str p)) w := fun w => run_string_add_sum w _ _ (by omega)
  have z12 : (before ++ str p).size = before.size + p.length := by rw [ByteArray.size_append, zp]
  have a2 : ∀ w, (Op.stringOp .add (before ++ str p) (str q)).run Try.prog w = .ok (.string (before ++ str p ++ str q)) w := fun w => run_string_add_sum w _ _ (by omega)
  have z13 : (before ++ str p ++ str q).size = before.size + p.length + q.length := by rw [ByteArray.size_append, z12, zq]
  have hSS : before ++ str p ++ str q ++ behind = S := by
    rw [hS, show before ++ str p ++ str q ++ behind = str before.data.toList ++ str p ++ str q ++ str behind.data.toList from rfl, str_append, str_append, str_append]
    simp
  have a3 : ∀ w, (Op.stringOp .add (before ++ str p ++ str q) behind).run Try.prog w = .ok (.string S) w := fun w => by rw [run_string_add_sum w _ _ (by omega), hSS]
  clear hS hS2 hSS G1 G2 hl2 z12 z13 hSz
  generalize before ++ str p ++ str q = B2 at *
  generalize before ++ str p = B1 at *
  generalize str p = P at *
  generalize str q = Q at *
  generalize p.length = lP at *
  generalize q.length = lQ at *
  have h1 := fun w => Lib.hid (HG1 w)
  have h2 := fun w => Lib.hid (HG2 w)
  clear HG1 HG2
  go_wp2_with fail
  have V1 := Var3.new w2 (.bool vb) (.int .i64 vn) (.string vs) 25
  have V2 := Var3.new (w2.alloc (.cells #[.bool vb, .int .i64 vn, .string vs] 25)) (.bool false) (.int .i64 n) (.string sx) 25
  replace V1 := V1.step ((Below.refl _ _).alloc (Nat.le_refl _) (.cells #[.bool false, .int .i64 n, .string sx] 25))
  replace hB := bel_trans hB (show Below w2.heap.size w2 ((w2.alloc (.cells #[.bool vb, .int .i64 vn, .string vs] 25)).alloc (.cells #[.bool false, .int .i64 n, .string sx] 25)) by go_grown)
  rw [show (w2.alloc (.cells #[.bool vb, .int .i64 vn, .string vs] 25)).heap.size = w2.heap.size + 1 from by simp] at V2
  generalize w2.heap.size = d0 at *
  generalize (w2.alloc (.cells #[.bool vb, .int .i64 vn, .string vs] 25)).alloc (.cells #[.bool false, .int .i64 n, .string sx] 25) = w3 at *
  have HV := fun (w : World) (hb : Below w3.heap.size w3 w) => Lib.hid (And.intro (V1.step hb) (V2.step hb))
  clear V1 V2
  refine Go.Confl.wp_region_confl (by simp only [List.map_cons, List.map_nil]; rfl) (by kernel_rfl) (by kernel_rfl) ?_
  iterate 6
    first
    | (refine Go.Confl.chain_skip (Go.Confl.unwanted_is rfl rfl) ?_)
    | (first | apply Go.Confl.chain_is _ (Go.Confl.wanted_none rfl) | apply Go.Confl.chain_is _ (Go.Confl.wanted_is rfl rfl)
       · intro b w hr hb K hK
         simp [Go.Confl.readFacts, Go.Confl.tmpsOf, Go.Confl.writerOf, Go.Confl.Is, Op.operands, Call.operands, List.findIdx?, List.findIdx?.go] at hr
         obtain ⟨⟨k0, k1, k2, _, _, _⟩, ⟨m0, m1, m2, _, _, _⟩⟩ := (HV _ hb).out
         go_wp2_with (first
           | (go_at_call 22; (with_reducible refine (HP _).out.mono ?_); rintro e w' ⟨rfl, hb'⟩)
           | (go_at_call 22; (with_reducible refine (HQ _).out.mono ?_); rintro e w' ⟨rfl, hb'⟩))
         try (simp only [hr]; go_wp2)
         exact hK _ _ rfl (by first | exact Below.refl _ _ | assumption))
    simp only [List.nil_append, List.cons_append]
  intro us w hp hb
  simp [Go.Confl.allPosts, Go.Confl.Is] at hp
  simp only [Go.Confl.putsFrom, hp, Act.put, List.setIfInBounds_toArray, List.set_cons_zero, List.set_cons_succ]
  clear hp HP HQ
  have hV := fun (w' : World) (hb' : Below w.heap.size w w') => HV w' (bel_trans hb hb')
  replace hB := bel_trans hB hb
  clear HV hb
  have lp' : lP ≤ 24 := by omega
  have lq' : lQ ≤ 140737488351253 := by omega
  clear lp lq zvs z1 wn wvn
  go_wp2_with fail
  refine (h1 _).out.mono ?_
  rintro e w' ⟨rfl, hb1⟩
  go_wp2_with fail
  have hb2 := (Below.refl w'.heap.size w').alloc (Nat.le_refl _) (.cells #[.bool vb, .int .i64 vn, .string vs] 25)
  have V := Var3.new w' (.bool vb) (.int .i64 vn) (.string vs) 25
  have hV2 := fun (w : World) (hb : Below (w'.alloc (.cells #[.bool vb, .int .i64 vn, .string vs] 25)).heap.size (w'.alloc (.cells #[.bool vb, .int .i64 vn, .string vs] 25)) w) => Lib.hid (And.intro (hV w (bel_trans (bel_trans hb1 hb2) hb)).out (V.step hb))
  replace hB := bel_trans hB (bel_trans hb1 hb2)
  clear hV V hb1 hb2
  generalize w'.heap.size = e1 at *
  generalize w'.alloc (.cells #[.bool vb, .int .i64 vn, .string vs] 25) = wn1 at *
  have hV := hV2
  clear hV2
  refine (h2 _).out.mono ?_
  rintro e w' ⟨rfl, hb1⟩
  go_wp2_with fail
  have hb2 := (Below.refl w'.heap.size w').alloc (Nat.le_refl _) (.cells #[.bool false, .int .i64 n, .string sx] 25)
  have V := Var3.new w' (.bool false) (.int .i64 n) (.string sx) 25
  have hV2 := fun (w : World) (hb : Below (w'.alloc (.cells #[.bool false, .int .i64 n, .string sx] 25)).heap.size (w'.alloc (.cells #[.bool false, .int .i64 n, .string sx] 25)) w) => Lib.hid (And.intro (hV w (bel_trans (bel_trans hb1 hb2) hb)).out (V.step hb))
  replace hB := bel_trans hB (bel_trans hb1 hb2)
  clear hV V hb1 hb2
  generalize w'.heap.size = e2 at *
  generalize w'.alloc (.cells #[.bool false, .int .i64 n, .string sx] 25) = wn2 at *
  have hV := hV2
  clear hV2
  refine (hAw _).out.mono ?_
  rintro e w' ⟨rfl, hb1⟩
  replace hB := bel_trans hB hb1
  obtain ⟨⟨⟨⟨k0, k1, k2, _, _, _⟩, ⟨m0, m1, m2, _, _, _⟩⟩, p0, p1, p2, _, _, _⟩, q0, q1, q2, _, _, _⟩ := (hV _ hb1).out
  clear hV hb1 h1 h2 hAw a1 a2 a3
  go_wp2
  go_ret
  exact RetB.mk rfl hB
set_option maxRecDepth 100000 in
set_option maxHeartbeats 4000000 in
theorem valueRoundTrip_lifted (os : Os) (started : os.Started) (H : Type) (enc : TypeId × Value → H) :
    ReturnsInHanded {} Try.checked os 8 .any (Rows.valueRoundTripSpec.pre6 enc Try.prog Try.f8 Rows.valueRoundTripRow.domain false) (Rows.valueRoundTripSpec.post enc Try.prog Try.f8 false true false false) := by
  refine law_lifted (C := Try.checked) (tb := 4) started Try.own Try.laidOut (by kernel_rfl) Try.func8
    (ChangeSpec.witness6 (enc := enc) (C := Try.checked) false ⟨#[], #[.int .i64 0, .slice none 0 0, .int .i64 0, .string ⟨#[]⟩, .string ⟨#[]⟩, .string ⟨#[]⟩], []⟩ 8 (by kernel_rfl) (by kernel_rfl) (by kernel_rfl) (by kernel_rfl))
    rfl rfl Try.underlying4 (by kernel_rfl) (fun ds h => ?_) (fun W base args ds p hval0 hA0 hsz0 hlt => ?_)
  · have h' : ds.length = Try.f8.params.toList.length := h
    rw [Try.params8] at h'
    match ds, h' with
    | [_, _, _, _, _, _], _ => rfl
  · have hval : ∀ (j : Nat) t v, Try.f8.params[j]? = some t → args[j]? = some v → Value.okWide Try.prog W .any base t v := hval0
    have hA : DataW.TrodAll enc Try.prog W 0 (fun _ => true) true Try.f8.params.toList args.toList ds p := hA0
    have hsz : (DataW.weightsEach Try.prog Try.f8.params.toList ds).all (· ≤ reachBytes) = true := hsz0
    rw [Try.params8] at hA hval hsz
    clear hA0 hval0 hsz0
    obtain ⟨v0, vs0, d0, ds0, p0, q0, hargs, rfl, rfl, h0, r0⟩ := trodAll_cons hA
    obtain ⟨v1, vs1, d1, ds1, p1, q1, rfl, rfl, rfl, h1, r1⟩ := trodAll_cons r0
    obtain ⟨v2, vs2, d2, ds2, p2, q2, rfl, rfl, rfl, h2, r2⟩ := trodAll_cons r1
    obtain ⟨v3, vs3, d3, ds3, p3, q3, rfl, rfl, rfl, h3, r3⟩ := trodAll_cons r2
    obtain ⟨v4, vs4, d4, ds4, p4, q4, rfl, rfl, rfl, h4, r4⟩ := trodAll_cons r3
    obtain ⟨v5, vs5, d5, ds5, p5, q5, rfl, rfl, rfl, h5, r5⟩ := trodAll_cons r4
    obtain ⟨rfl, rfl, rfl⟩ := trodAll_nil r5
    obtain rfl : args = #[v0, v1, v2, v3, v4, v5] := by cases args; simp_all
    obtain ⟨t, rfl, rfl, rfl, wt⟩ := open_int Try.underlying3 (hval 0 3 v0 rfl rfl) h0
    obtain ⟨zl, rl, wl, bl⟩ := open_rdI Try.underlying32 Try.underlying3 (by kernel_rfl) (hval 1 32 v1 rfl rfl) h1 hsz (j := 1) rfl rfl
    obtain ⟨n, rfl, rfl, rfl, wn⟩ := open_int Try.underlying2 (hval 2 2 v2 rfl rfl) h2
    obtain ⟨str, rfl, rfl, rfl, _⟩ := open_string Try.underlying9 (hval 3 9 v3 rfl rfl) h3
    have zstr : str.size ≤ 140737488351232 := by have h := sized_string hsz (j := 3) (t := 9) rfl rfl; rw [size_list] at h; exact h
    obtain ⟨before, rfl, rfl, rfl, _⟩ := open_string Try.underlying9 (hval 4 9 v4 rfl rfl) h4
    have zbefore : before.size ≤ 140737488351232 := by have h := sized_string hsz (j := 4) (t := 9) rfl rfl; rw [size_list] at h; exact h
    obtain ⟨behind, rfl, rfl, rfl, _⟩ := open_string Try.underlying9 (hval 5 9 v5 rfl rfl) h5
    have zbehind : behind.size ≤ 140737488351232 := by have h := sized_string hsz (j := 5) (t := 9) rfl rfl; rw [size_list] at h; exact h
    change Calls Try.prog 8 #[.int .i64 t, v1, .int .i64 n, .string str, .string before, .string behind] W (RetB (.bool true) W)
    exact round_walk t v1 zl n str before behind W wt rl wl wn zstr zbefore zbehind
theorem valueRoundTrip_holds : Rows.ValueRoundTripSaid :=
  OpenClaim.holds_of_wide 8 Try.f8 rfl rfl rfl rfl rfl rfl rfl ⟨rfl, rfl, rfl, rfl, rfl⟩ rfl rfl rfl rfl rfl (by kernel_rfl) Try.func8 (by kernel_rfl)
    (of_decide_eq_true (by kernel_rfl)) (by unfold Func.isWrapper; first | (rw [if_pos (by decide +kernel)]; kernel_rfl) | (rw [if_neg (by decide +kernel)]; exact ⟨rfl, rfl⟩))
    (fun os started H enc _ => valueRoundTrip_lifted os started H enc)
end Go.Proofs.Ytidlemedkjkmdaa
