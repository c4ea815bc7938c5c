/- The statement of layer 3 on changes of four bytes in a row. -/
import Derived.Test.YtddjcanljfedcaaCrcLaw
import Derived.Test.YtddjcanljfedcaaConfl
namespace Go.VB
open Go.RowKit
/-- A row of bytes at the head of a block. -/
def Row8 (bs : List UInt8) : Confl.Post := fun v w => ∃ g m, v = .slice (some ⟨g, 0, none⟩) bs.length m ∧ g < w.heap.size ∧ ∀ (j : Nat) u, (bs.map bv)[j]? = some u → w.cell? ⟨g, j, none⟩ = some u
theorem Row8.stable (bs : List UInt8) : Confl.Stable (Row8 bs) := by
  rintro v w w' ⟨g, m, hv, hg, hc⟩ hb
  exact ⟨g, m, hv, Nat.lt_of_lt_of_le hg hb.size, fun j u hj => by rw [hb.cell (show (⟨g, j, none⟩ : Addr).block < _ from hg)]; exact hc j u hj⟩
theorem Row8.made (w : World) (bs : List UInt8) (m : Nat) (e : TypeId) : Row8 bs (.slice (some ⟨w.heap.size, 0, none⟩) bs.length m) (w.alloc (.cells (bs.map bv).toArray e)) :=
  ⟨_, m, rfl, by simp, fun j u hj => by rw [World.cell?_alloc_new]; simpa using hj⟩
theorem run_string_row8 {P : Program} {w : World} (src dst e : TypeId) {v : Value} {bs : List UInt8}
    (hs : P.underlying src = some (.slice e)) (he : P.underlying e = some (.int .u8)) (hd : P.underlying dst = some .string) (h : Row8 bs v w) :
    (convert src dst v).run P w = .ok (.string (str bs)) w := by
  obtain ⟨g, m, rfl, _, hc⟩ := h
  refine run_string_of_row w src dst e _ _ m bs hs he hd rfl ?_
  have := run_loadCells_list (P := P) (w := w) ⟨g, 0, none⟩ (bs.map bv) (fun j u hj => by
    have e : ((⟨g, 0, none⟩ : Addr).add j) = ⟨g, j, none⟩ := by
      unfold Addr.add
      by_cases h0 : j = 0
      · subst h0; rfl
      · simp [h0]
    rw [e]; exact hc j u hj)
  rw [List.length_map] at this
  exact this
end Go.VB
namespace Go.CR
open Go.VB
theorem byte_xor (x : UInt8) (a : Nat) (ha : a < 256) : (x ^^^ UInt8.ofNat a).toNat = x.toNat ^^^ a := by
  rw [UInt8.toNat_xor, UInt8.toNat_ofNat', Nat.mod_eq_of_lt (by omega)]
/-- The changed text. -/
def burst (l : List UInt8) (k a b c d : Nat) : List UInt8 :=
  l.take k ++ [l.getD k 0 ^^^ UInt8.ofNat a, l.getD (k + 1) 0 ^^^ UInt8.ofNat b, l.getD (k + 2) 0 ^^^ UInt8.ofNat c, l.getD (k + 3) 0 ^^^ UInt8.ofNat d] ++ l.drop (k + 4)
theorem cut4 (l : List UInt8) {k : Nat} (h : k + 4 ≤ l.length) : l = l.take k ++ [l.getD k 0, l.getD (k + 1) 0, l.getD (k + 2) 0, l.getD (k + 3) 0] ++ l.drop (k + 4) := by
  have e (i : Nat) (hi : i < l.length) : l.drop i = l.getD i 0 :: l.drop (i + 1) := by
    rw [List.drop_eq_getElem_cons hi, List.getD_eq_getElem?_getD, List.getElem?_eq_getElem hi]; rfl
  have h1 := e k (by omega)
  rw [e (k + 1) (by omega), e (k + 2) (by omega), e (k + 3) (by omega)] at h1
  conv => lhs; rw [← List.take_append_drop k l, h1]
  simp
theorem burst_sum {l : List UInt8} {k a b c d : Nat} (h : k + 4 ≤ l.length) (hne : ¬ l = burst l k a b c d) : sumL tab l ≠ sumL tab (burst l k a b c d) := by
  intro hs
  apply hne
  have hl := cut4 l h
  unfold burst at hs ⊢
  have h2 : sumL tab (l.take k ++ [l.getD k 0, l.getD (k + 1) 0, l.getD (k + 2) 0, l.getD (k + 3) 0] ++ l.drop (k + 4)) = sumL tab l := congrArg _ hl.symm
  have h3 := sum_burst (l.take k) (l.drop (k + 4)) (by rfl) (by rfl) (h2.trans hs)
  rw [← h3]
  exact hl
end Go.CR
namespace Go.Proofs.Ytddjcanljfedcaa
open Go.RowKit Go.VB Go.CR Go.ChangeShapes Go.WideShapes Go.ChangeAt
open Go.ChangeMaps (open_string)
set_option linter.constructorNameAsVariable false
set_option maxRecDepth 100000 in
set_option maxHeartbeats 4000000 in
theorem bursts_walk (s : ByteArray) (at' : Int) (a b c d : Nat) (W : World) (zs : s.size ≤ 140737488351232) (wat : (Lit.int .i64 at').wf = true) (ha : a < 256) (hb : b < 256) (hc : c < 256) (hd : d < 256) :
    Calls Try.prog 7 #[.string s, .int .i64 at', .int .u8 (a : Int), .int .u8 (b : Int), .int .u8 (c : Int), .int .u8 (d : Int)] W (RetB (.bool true) W) := by
  by_cases h4 : s.size < 4
  · go_enter Try.func7, Try.ntmps7
    go_wp2_with fail
    refine (awake3_any _).mono ?_
    rintro e w1 ⟨rfl, hB⟩
    go_wp2
    go_ret
    exact RetB.mk rfl hB
  have hp := pickN_bd at' (n := (s.size : Int) - 3) (by omega)
  have HPK := fun w => Lib.hid (pick_at at' ((s.size : Int) - 3) w wat (by omega) (by omega))
  generalize pickN at' ((s.size : Int) - 3) = p at *
  obtain ⟨p1, p2⟩ := hp
  clear wat
  obtain ⟨k, rfl⟩ := Int.eq_ofNat_of_zero_le p1
  have hk : k + 4 ≤ s.size := by omega
  have hkl : k + 4 ≤ s.data.toList.length := by rw [size_list]; exact hk
  have hgb := get_bN s
  have xb (x y : Nat) (hx : x < 256) (hy : y < 256) : bits .xor .u8 (x : Int) (y : Int) = ((x ^^^ y : Nat) : Int) := u8_xor_nat x y hx hy
  have ea := xb _ _ (bN_lt s k) ha
  have eb := xb _ _ (bN_lt s (k + 1)) hb
  have ec := xb _ _ (bN_lt s (k + 2)) hc
  have ed := xb _ _ (bN_lt s (k + 3)) hd
  clear xb
  have fa : bv (s.data.toList.getD k 0 ^^^ UInt8.ofNat a) = .int .u8 ((bN s k ^^^ a : Nat) : Int) := by unfold bv; rw [byte_xor _ a ha]; rfl
  have fb : bv (s.data.toList.getD (k + 1) 0 ^^^ UInt8.ofNat b) = .int .u8 ((bN s (k + 1) ^^^ b : Nat) : Int) := by unfold bv; rw [byte_xor _ b hb]; rfl
  have fc : bv (s.data.toList.getD (k + 2) 0 ^^^ UInt8.ofNat c) = .int .u8 ((bN s (k + 2) ^^^ c : Nat) : Int) := by unfold bv; rw [byte_xor _ c hc]; rfl
  have fd : bv (s.data.toList.getD (k + 3) 0 ^^^ UInt8.ofNat d) = .int .u8 ((bN s (k + 3) ^^^ d : Nat) : Int) := by unfold bv; rw [byte_xor _ d hd]; rfl
  obtain ⟨bs, hbs⟩ : ∃ bs, bs = [s.data.toList.getD k 0 ^^^ UInt8.ofNat a, s.data.toList.getD (k + 1) 0 ^^^ UInt8.ofNat b, s.data.toList.getD (k + 2) 0 ^^^ UInt8.ofNat c, s.data.toList.getD (k + 3) 0 ^^^ UInt8.ofNat d] := ⟨_, rfl⟩
  have hbl : bs.length = 4 := by rw [hbs]; rfl
  have hmade (w : World) (m : Nat) := Row8.made w bs m 5
  have hcells : (bs.map bv).toArray = #[.int .u8 ((bN s k ^^^ a : Nat) : Int), .int .u8 ((bN s (k + 1) ^^^ b : Nat) : Int), .int .u8 ((bN s (k + 2) ^^^ c : Nat) : Int), .int .u8 ((bN s (k + 3) ^^^ d : Nat) : Int)] := by
    rw [hbs]; simp only [List.map_cons, List.map_nil, fa, fb, fc, fd]
  rw [hcells, hbl] at hmade
  obtain ⟨T, hT⟩ : ∃ T, T = str (burst s.data.toList k a b c d) := ⟨_, rfl⟩
  obtain ⟨P, hP⟩ : ∃ P, P = str (s.data.toList.take k ++ bs) := ⟨_, rfl⟩
  have hPs : P.size = k + 4 := by rw [hP, str_size, List.length_append, List.length_take, hbl, size_list]; omega
  have hTs : T.size = s.size := by
    rw [hT, str_size]; unfold burst
    simp only [List.length_append, List.length_take, List.length_drop, size_list, List.length_cons, List.length_nil]; omega
  have hadd1 (w : World) : (Op.stringOp .add (s.extract 0 k) (str bs)).run Try.prog w = .ok (.string P) w := by
    rw [run_string_add_sum w _ _ (by rw [str_size, hbl, extract_str, str_size]; simp only [List.length_take]; omega), hP, extract_str, str_append, Nat.sub_zero, List.drop_zero]
  have hadd2 (w : World) : (Op.stringOp .add P (s.extract (k + 4) s.size)).run Try.prog w = .ok (.string T) w := by
    rw [run_string_add_sum w _ _ (by rw [hPs, extract_end, str_size, List.length_drop, size_list]; omega), hP, extract_end, str_append, hT, hbs]; rfl
  have hconv (w : World) (v : Value) (h : Row8 bs v w) := run_string_row8 (P := Try.prog) 33 9 5 Try.underlying33 Try.underlying5 Try.underlying9 h
  have hne (h : ¬ s = T) : sumL tab s.data.toList ≠ sumL tab T.data.toList := by
    rw [hT]
    exact burst_sum hkl (fun h' => h (by rw [hT, ← h']; rfl))
  have HNE := Lib.hid hne; have HCV := Lib.hid hconv; have HMD := Lib.hid hmade
  clear hne hconv hmade hcells fa fb fc fd hbs hkl hT hP
  have hya : bN s k ^^^ a < 256 := xor_lt8 (bN_lt s k) ha
  have hyb : bN s (k + 1) ^^^ b < 256 := xor_lt8 (bN_lt s (k + 1)) hb
  have hyc : bN s (k + 2) ^^^ c < 256 := xor_lt8 (bN_lt s (k + 2)) hc
  have hyd : bN s (k + 3) ^^^ d < 256 := xor_lt8 (bN_lt s (k + 3)) hd
  generalize bN s k ^^^ a = y0 at *
  generalize bN s (k + 1) ^^^ b = y1 at *
  generalize bN s (k + 2) ^^^ c = y2 at *
  generalize bN s (k + 3) ^^^ d = y3 at *
  go_enter Try.func7, Try.ntmps7
  go_wp2_with fail
  refine (HPK _).out.mono ?_; rintro e w' ⟨rfl, rfl⟩
  clear HPK
  go_wp2_with fail
  refine Go.Confl.wp_region_confl (by simp only [List.map_cons, List.map_nil]; rfl) (by kernel_rfl) (by kernel_rfl) ?_
  iterate 26
    first
    | (refine Go.Confl.chain_skip (Go.Confl.unwanted_is rfl rfl) ?_)
    | (first | apply Go.Confl.chain_is _ (Go.Confl.wanted_none rfl) | apply Go.Confl.chain_is _ (Go.Confl.wanted_is rfl rfl)
       · intro b w hr hb K hK
         simp [Go.Confl.readFacts, Go.Confl.tmpsOf, Go.Confl.writerOf, Go.Confl.Is, Op.operands, List.findIdx?, List.findIdx?.go] at hr
         go_wp2_with fail
         try (simp only [hr]; go_wp2)
         exact hK _ _ rfl (by first | exact Below.refl _ _ | assumption))
    simp only [List.nil_append, List.cons_append]
  apply Go.Confl.chain_any (Row8 bs) (Row8.stable bs) (Go.Confl.wanted_none rfl)
  · intro f w hr hB K hK
    simp [Go.Confl.readFacts, Go.Confl.tmpsOf, Go.Confl.writerOf, Go.Confl.Is, Op.operands, List.findIdx?, List.findIdx?.go] at hr
    go_wp2_with fail
    exact hK _ _ (HMD.out w _) ((Below.refl _ _).alloc (Nat.le_refl _) _)
  simp only [List.nil_append, List.cons_append]
  apply Go.Confl.chain_is _ (Go.Confl.wanted_none rfl)
  · intro f w hr hB K hK
    simp [Go.Confl.readFacts, Go.Confl.tmpsOf, Go.Confl.writerOf, Op.operands, List.findIdx?, List.findIdx?.go] at hr
    have hcv := HCV.out _ _ hr
    go_wp2_with fail
    exact hK _ _ rfl (Below.refl _ _)
  simp only [List.nil_append, List.cons_append]
  iterate 7
    first
    | (refine Go.Confl.chain_skip (Go.Confl.unwanted_is rfl rfl) ?_)
    | (first | apply Go.Confl.chain_is _ (Go.Confl.wanted_none rfl) | apply Go.Confl.chain_is _ (Go.Confl.wanted_is rfl rfl)
       · intro b w hr hb K hK
         simp [Go.Confl.readFacts, Go.Confl.tmpsOf, Go.Confl.writerOf, Go.Confl.Is, Op.operands, List.findIdx?, List.findIdx?.go] at hr
         go_wp2_with fail
         try (simp only [hr]; go_wp2)
         exact hK _ _ rfl (by first | exact Below.refl _ _ | assumption))
    simp only [List.nil_append, List.cons_append]
  intro us w hp hb
  simp [Go.Confl.allPosts, Go.Confl.Is] at hp
  simp only [Go.Confl.putsFrom, hp, Act.put, List.setIfInBounds_toArray, List.set_cons_zero, List.set_cons_succ]
  clear hp hadd1 hadd2 HMD HCV ea eb ec ed hgb
  go_wp2_with fail
  refine (ctable_any _).mono ?_
  rintro e w1 ⟨v, rfl, hown, hB⟩
  replace hB := bel_trans hb hB
  have hrd := hown.read
  clear hb hown
  go_wp2_with fail
  refine (awake3_any _).mono ?_
  rintro e w2 ⟨rfl, hb⟩
  replace hB := bel_trans hB hb
  replace hrd := hrd.step hb
  clear hb
  go_wp2_with fail
  refine (csum_any _ tab s _ hrd tab_lt zs).mono ?_; rintro e w' ⟨rfl, rfl⟩
  go_wp2_with fail
  refine (csum_any _ tab T _ hrd tab_lt (by rw [hTs]; exact zs)).mono ?_; rintro e w' ⟨rfl, rfl⟩
  clear hrd
  by_cases hst : s = T
  · have hd1 := text_eq hst
    have hd2 : (((sumL tab s.data.toList : Nat) : Int) == ((sumL tab T.data.toList : Nat) : Int)) = true := by rw [hst]; simp
    clear hst
    go_wp2
    go_ret
    exact RetB.mk rfl hB
  · have hd1 := text_ne hst
    have hn := HNE.out hst
    have hd2 : (((sumL tab s.data.toList : Nat) : Int) == ((sumL tab T.data.toList : Nat) : Int)) = false := beq_eq_false_iff_ne.2 (fun h => hn (Int.ofNat_inj.1 h))
    clear hst hn
    go_wp2
    go_ret
    exact RetB.mk rfl hB
set_option maxRecDepth 100000 in
set_option maxHeartbeats 4000000 in
theorem crcDetectsBursts_lifted (os : Os) (started : os.Started) (H : Type) (enc : TypeId × Value → H) :
    ReturnsInHanded {} Try.checked os 7 .any (Rows.crcDetectsBurstsSpec.pre6 enc Try.prog Try.f7 Rows.crcDetectsBurstsRow.domain false) (Rows.crcDetectsBurstsSpec.post enc Try.prog Try.f7 false true false false) := by
  refine law_lifted (C := Try.checked) (tb := 4) started Try.own Try.laidOut (by kernel_rfl) Try.func7
    (ChangeSpec.witness6 (enc := enc) (C := Try.checked) false ⟨#[], #[.string ⟨#[]⟩, .int .i64 0, .int .u8 0, .int .u8 0, .int .u8 0, .int .u8 0], []⟩ 8 (by kernel_rfl) (by kernel_rfl) (by kernel_rfl) (by kernel_rfl))
    rfl rfl Try.underlying4 (by kernel_rfl) (fun ds h => ?_) (fun W base args ds p hval0 hA0 hsz0 hlt => ?_)
  · have h' : ds.length = Try.f7.params.toList.length := h
    rw [Try.params7] at h'
    match ds, h' with
    | [_, _, _, _, _, _], _ => rfl
  · have hval : ∀ (j : Nat) t v, Try.f7.params[j]? = some t → args[j]? = some v → Value.okWide Try.prog W .any base t v := hval0
    have hA : DataW.TrodAll enc Try.prog W 0 (fun _ => true) true Try.f7.params.toList args.toList ds p := hA0
    have hsz : (DataW.weightsEach Try.prog Try.f7.params.toList ds).all (· ≤ reachBytes) = true := hsz0
    rw [Try.params7] at hA hval hsz
    clear hA0 hval0 hsz0
    obtain ⟨v0, vs0, d0, ds0, p0, q0, hargs, rfl, rfl, h0, r0⟩ := trodAll_cons hA
    obtain ⟨v1, vs1, d1, ds1, p1, q1, rfl, rfl, rfl, h1, r1⟩ := trodAll_cons r0
    obtain ⟨v2, vs2, d2, ds2, p2, q2, rfl, rfl, rfl, h2, r2⟩ := trodAll_cons r1
    obtain ⟨v3, vs3, d3, ds3, p3, q3, rfl, rfl, rfl, h3, r3⟩ := trodAll_cons r2
    obtain ⟨v4, vs4, d4, ds4, p4, q4, rfl, rfl, rfl, h4, r4⟩ := trodAll_cons r3
    obtain ⟨v5, vs5, d5, ds5, p5, q5, rfl, rfl, rfl, h5, r5⟩ := trodAll_cons r4
    obtain ⟨rfl, rfl, rfl⟩ := trodAll_nil r5
    obtain rfl : args = #[v0, v1, v2, v3, v4, v5] := by cases args; simp_all
    obtain ⟨s, rfl, rfl, rfl, _⟩ := open_string Try.underlying9 (hval 0 9 v0 rfl rfl) h0
    have zs : s.size ≤ 140737488351232 := by have h := sized_string hsz (j := 0) (t := 9) rfl rfl; rw [size_list] at h; exact h
    obtain ⟨at', rfl, rfl, rfl, wat'⟩ := open_int Try.underlying3 (hval 1 3 v1 rfl rfl) h1
    obtain ⟨a, rfl, rfl, rfl, wa⟩ := open_int Try.underlying5 (hval 2 5 v2 rfl rfl) h2
    obtain ⟨b, rfl, rfl, rfl, wb⟩ := open_int Try.underlying5 (hval 3 5 v3 rfl rfl) h3
    obtain ⟨c, rfl, rfl, rfl, wc⟩ := open_int Try.underlying5 (hval 4 5 v4 rfl rfl) h4
    obtain ⟨d, rfl, rfl, rfl, wd⟩ := open_int Try.underlying5 (hval 5 5 v5 rfl rfl) h5
    change Calls Try.prog 7 #[.string s, .int .i64 at', .int .u8 a, .int .u8 b, .int .u8 c, .int .u8 d] W (RetB (.bool true) W)
    obtain ⟨a1, a2⟩ := bounds_u8 wa
    obtain ⟨b1, b2⟩ := bounds_u8 wb
    obtain ⟨c1, c2⟩ := bounds_u8 wc
    obtain ⟨d1, d2⟩ := bounds_u8 wd
    obtain ⟨a, rfl⟩ := Int.eq_ofNat_of_zero_le a1
    obtain ⟨b, rfl⟩ := Int.eq_ofNat_of_zero_le b1
    obtain ⟨c, rfl⟩ := Int.eq_ofNat_of_zero_le c1
    obtain ⟨d, rfl⟩ := Int.eq_ofNat_of_zero_le d1
    exact bursts_walk s at' a b c d W zs wat' (by omega) (by omega) (by omega) (by omega)
theorem crcDetectsBursts_holds : Rows.CrcDetectsBurstsSaid :=
  OpenClaim.holds_of_wide 7 Try.f7 rfl rfl rfl rfl rfl rfl rfl ⟨rfl, rfl, rfl, rfl, rfl⟩ rfl rfl rfl rfl rfl (by kernel_rfl) Try.func7 (by kernel_rfl)
    (of_decide_eq_true (by kernel_rfl)) (by unfold Func.isWrapper; first | (rw [if_pos (by decide +kernel)]; kernel_rfl) | (rw [if_neg (by decide +kernel)]; exact ⟨rfl, rfl⟩))
    (fun os started H enc _ => crcDetectsBursts_lifted os started H enc)
end Go.Proofs.Ytddjcanljfedcaa
