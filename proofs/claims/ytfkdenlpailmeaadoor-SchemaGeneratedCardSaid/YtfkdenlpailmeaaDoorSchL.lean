/- SchemaRaw, SchemaExamples, SchemaRoundTrip: tied cards; the tables that their rows list are never read (the scales are below 100). No condition. -/
import Derived.Test.YtfkdenlpailmeaaDoorLaid
import Derived.Test.YtfkdenlpailmeaaDoorSchO
import Derived.Test.YtfkdenlpailmeaaDoorSchT
import Derived.Test.YtfkdenlpailmeaaDoorSchK
import Derived.Test.YtfkdenlpailmeaaDoorSchG
namespace Go.SC
open Go.RowKit Go.VB Go.VL
theorem kname (n : Nat) (h : n < 4) : nameS (str [UInt8.ofNat (97 + n)]) = true := by
  match n, h with
  | 0, _ => decide +kernel
  | 1, _ => decide +kernel
  | 2, _ => decide +kernel
  | 3, _ => decide +kernel
theorem kname_ne {n m : Nat} (hn : n < 4) (hm : m < 4) (h : str [UInt8.ofNat (97 + n)] = str [UInt8.ofNat (97 + m)]) : n = m := by
  have h1 := str_inj h
  simp only [List.cons.injEq, and_true] at h1
  have h2 := congrArg UInt8.toNat h1
  rw [UInt8.toNat_ofNat', UInt8.toNat_ofNat'] at h2
  omega
/-- keep's schemas are valid. -/
theorem kok_chk {cs : List Col} {key : Int} (h : KOK cs key) : chkS cs key = 0 := by
  obtain ⟨h1, h4, hk, k0, k1⟩ := h
  rw [chkS_end (by omega) (by omega), if_neg (by omega)]
  intro i hi
  obtain ⟨a, b, c, d, e⟩ := hk i hi
  have hn : nameS (cs.getD i col0).nm = true := by rw [a]; exact kname _ (by omega)
  rw [chkCol_scale hn ?_ b, if_neg (by omega)]
  rintro ⟨j, hj, he⟩
  obtain ⟨a', _⟩ := hk j (by omega)
  rw [a, a'] at he
  have := kname_ne (by omega) (by omega) he
  omega
def exCs : List Col := [⟨⟨#[105, 100]⟩, 1, 0, false⟩, ⟨⟨#[112, 114, 105, 99, 101]⟩, 5, 2, true⟩]
def exL : List UInt8 := [105, 100, 32, 105, 110, 116, 10, 112, 114, 105, 99, 101, 32, 100, 101, 99, 105, 109, 97, 108, 32, 50, 32, 110, 117, 108, 108, 10, 107, 101, 121, 32, 105, 100, 10]
theorem ex_chk : chkS exCs 0 = 0 := by
  have n0 : nameS (⟨#[105, 100]⟩ : ByteArray) = true := by decide +kernel
  have n1 : nameS (⟨#[112, 114, 105, 99, 101]⟩ : ByteArray) = true := by decide +kernel
  rw [chkS_end (by decide) (by decide)]
  · rfl
  · intro k hk
    match k, hk with
    | 0, _ => rw [chkCol_scale (cs := exCs) (i := 0) n0 (by rintro ⟨j, hj, _⟩; omega) rfl]; rfl
    | 1, _ => rw [chkCol_scale (cs := exCs) (i := 1) n1 (by
        rintro ⟨j, hj, he⟩
        obtain rfl : j = 0 := by omega
        exact absurd he (by decide)) rfl]; rfl
theorem ex_fmt : fmtL exCs 0 = exL := by decide +kernel
theorem ex_read : prsS exL = ⟨exCs, 0, 0, 0⟩ := by
  rw [← ex_fmt]
  exact read_fmt ex_chk (by rw [ex_fmt]; decide)
end Go.SC
namespace Go.Proofs.YtfkdenlpailmeaaDoor
open Go.RowKit Go.VB Go.VL Go.SC Go.ChangeShapes Go.WideShapes Go.ChangeAt
open Go.ChangeMaps (open_string)
set_option linter.constructorNameAsVariable false
/-- The walks need nothing of the listed tables. -/
def TabOk (_ : World) : Prop := True
theorem tab_of_laid {W : World} {laid : List (String × DataW Unit)} (_ : laidMetH Tryd.prog laid W) : TabOk W := trivial
set_option maxRecDepth 100000 in
set_option maxHeartbeats 2000000 in
theorem raw_walk (cs : List Col) (v : Value) (key : Int) (nm : ByteArray) (W : World) (hr : RdC W W.heap.size v cs) :
    Calls Tryd.prog 4 #[.agg #[v, .int .i64 key], .string nm] W (RetB (.bool true) W) := by
  have hV0 := Var2.new W v (.int .i64 key) 24
  have hB0 : Below W.heap.size W (W.alloc (.cells #[v, .int .i64 key] 24)) := (Below.refl _ _).alloc (Nat.le_refl _) _
  have hR0 := (hr.below hB0).more hB0.size
  have hA := fun w h => Lib.hid (agrees_any cs v key nm w h)
  obtain ⟨A, c, rfl, _⟩ := hr
  go_enter Tryd.func4, Tryd.ntmps4
  go_wp2_with fail
  refine (awake7_any _).mono ?_
  rintro e w1 ⟨rfl, hb1⟩
  have h1 := Lib.hid (hA _ (hR0.step hb1)).out
  obtain ⟨l0, l1, _, _⟩ := hV0.step hb1
  go_wp2_with fail
  refine h1.out.mono ?_
  rintro e w2 ⟨rfl, hb2⟩
  go_wp2_with fail
  go_ret
  exact RetB.mk rfl (bel_trans (bel_trans hB0 hb1) hb2)
set_option maxRecDepth 100000 in
set_option maxHeartbeats 4000000 in
theorem schemaRaw_lifted (os : Os) (started : os.Started) (H : Type) (enc : TypeId × Value → H) :
    ReturnsInHanded {} Tryd.checked os 4 .any (fun w args => (Rows.schemaRawSpec.pre enc Tryd.prog Tryd.f4 Rows.schemaRawRow.domain false w args ∧ laidMetH Tryd.prog Rows.schemaRawRow.laid w) ∧ sizedMet enc Tryd.prog Tryd.f4 (OpenSpec.ofChange Rows.schemaRawSpec) false w args) (Rows.schemaRawSpec.post enc Tryd.prog Tryd.f4 false true false false) := by
  refine laid_lifted (C := Tryd.checked) (tb := 4) (laid := Rows.schemaRawRow.laid) started Tryd.own Tryd.laidOut (by kernel_rfl) Tryd.func4
    (ChangeSpec.witness_shaped (enc := enc) (C := Tryd.checked) (os := os) (X := fun w _ => laidMetH Tryd.prog Rows.schemaRawRow.laid w) false (World.laidAll Tryd.prog os Rows.schemaRawRow.laid) #[.agg #[.slice none 0 0, .int .i64 0], .string ⟨#[]⟩] 8 (World.laidAll_os _ _ _) (World.shaped_of_ZipB (by kernel_rfl) (by kernel_rfl)) (by kernel_rfl) (by kernel_rfl) (by kernel_rfl) (by rw [MakeChecks.laidMetH_plain _ _ _ (by kernel_rfl)]; exact laidMet_laidAll _ (by kernel_rfl) (by kernel_rfl)))
    rfl rfl Tryd.underlying4 (by kernel_rfl) (fun ds h => ?_) (fun W base args ds p hval0 hA0 hsz0 hlt hL => ?_)
  · have h' : ds.length = Tryd.f4.params.toList.length := h
    rw [Tryd.params4] at h'
    match ds, h' with
    | [_, _], _ => rfl
  · have hval : ∀ (j : Nat) t v, Tryd.f4.params[j]? = some t → args[j]? = some v → Value.okWide Tryd.prog W .any base t v := hval0
    have hA : DataW.TrodAll enc Tryd.prog W 0 (fun _ => true) true Tryd.f4.params.toList args.toList ds p := hA0
    have hsz : (DataW.weightsEach Tryd.prog Tryd.f4.params.toList ds).all (· ≤ reachBytes) = true := hsz0
    rw [Tryd.params4] at hA hval hsz
    clear hA0 hval0 hsz0
    have ht : TabOk W := tab_of_laid hL
    clear hL
    obtain ⟨v0, vs0, d0, ds0, p0, q0, hargs, rfl, rfl, h0, r0⟩ := trodAll_cons hA
    obtain ⟨v1, vs1, d1, ds1, p1, q1, rfl, rfl, rfl, h1, r1⟩ := trodAll_cons r0
    obtain ⟨rfl, rfl, rfl⟩ := trodAll_nil r1
    obtain rfl : args = #[v0, v1] := by cases args; simp_all
    obtain ⟨sv, scs, sk, rfl, sr, wsk⟩ := open_sch (hval 0 24 v0 rfl rfl) h0
    obtain ⟨name, rfl, rfl, rfl, _⟩ := open_string Tryd.underlying9 (hval 1 9 v1 rfl rfl) h1
    have zname : name.size ≤ 140737488351232 := by have h := sized_string hsz (j := 1) (t := 9) rfl rfl; rw [size_list] at h; exact h
    change Calls Tryd.prog 4 #[(.agg #[sv, .int .i64 sk]), .string name] W (RetB (.bool true) W)
    exact raw_walk scs sv sk name W sr
theorem schemaRaw_holds : Rows.SchemaRawSaid :=
  OpenClaim.holds_of_wide 4 Tryd.f4 rfl rfl rfl rfl rfl rfl rfl ⟨rfl, rfl, rfl, rfl, rfl⟩ rfl rfl rfl rfl rfl (by kernel_rfl) Tryd.func4 (by kernel_rfl)
    (of_decide_eq_true (by kernel_rfl)) (by unfold Func.isWrapper; first | (rw [if_pos (by decide +kernel)]; kernel_rfl) | (rw [if_neg (by decide +kernel)]; exact ⟨rfl, rfl⟩))
    (fun os started H enc _ => schemaRaw_lifted os started H enc)
theorem schemaRaw_card : Rows.SchemaRawCardSaid :=
  Claim7.holds_tied_plain_at .later [] [.data, .data, .data] true Rows.schemaRawCard.stood.harness false schemaRaw_holds (fun _ h => by cases h) (by kernel_rfl) (fun _ h => by cases h) schemaRaw_row_tie rfl ⟨rfl, rfl⟩ (by kernel_rfl) rfl
    (fun f fn hf hfn => by
      obtain rfl : f = 4 := Option.some.inj ((show Tryd.prog.funcNamed Rows.schemaRawRow.func = some 4 by kernel_rfl).symm.trans hf) |>.symm
      obtain rfl : fn = Tryd.f4 := (Option.some.inj (Tryd.func4.symm.trans hfn)).symm
      exact ⟨by kernel_rfl, fun j t ht => by
        rw [Tryd.params4] at ht
        have hm : t ∈ [24, 9] := by simpa using Array.mem_of_getElem? ht
        have hall : ([24, 9].all fun u => !Tryd.prog.wantsStandIn u) = true := by kernel_rfl
        exact (show Tryd.prog.wantsStandIn t = false by simpa using List.all_eq_true.1 hall t hm)⟩)
    (by kernel_rfl)
set_option maxRecDepth 100000 in
set_option maxHeartbeats 2000000 in
theorem round_walk (v : Value) (zl : List Int) (W : World) (rl : RdI .i64 W W.heap.size v zl) (wl : ∀ z ∈ zl, (Lit.int .i64 z).wf = true) :
    Calls Tryd.prog 6 #[v] W (RetB (.bool true) W) := by
  have hAw := fun w => Lib.hid (awake7_any w)
  have HK := Lib.hid (kSch_any W v zl rl wl)
  have HS := fun x y key cs w hx hy => Lib.hid (sameS_eq x y key cs w hx hy)
  obtain ⟨A, cap, rfl, _⟩ := rl
  clear wl
  go_enter Tryd.func6, Tryd.ntmps6
  go_wp2_with fail
  refine HK.out.mono ?_
  rintro e w1 ⟨hb1, v1, cs, key, rfl, ho1, hko⟩
  have hchk := kok_chk hko
  have hlen := fmtL_len hchk
  have hrd := read_fmt hchk (by omega)
  have hR1 := ho1.read
  obtain ⟨A1, cap1, rfl, _⟩ := id hR1
  clear HK hko ho1 hlen
  have hal : Below w1.heap.size w1 (w1.alloc (.cells #[.slice A1 cs.length cap1, .int .i64 key] 24)) := (Below.refl _ _).alloc (Nat.le_refl _) _
  have hV := Var2.new w1 (.slice A1 cs.length cap1) (.int .i64 key) 24
  have hR2 := hR1.step hal
  have HF := Lib.hid (format_any cs (.slice A1 cs.length cap1) key _ hR2)
  rw [FT_ok hchk, hchk] at HF
  have HP := fun w => Lib.hid (parse_any (fmtL cs key) w)
  rw [hrd] at HP
  have hB := bel_trans hb1 hal
  clear hchk hrd hb1 hR1 hal
  generalize str (fmtL cs key) = T at *
  obtain ⟨l0, l1, f0, f1⟩ := id hV
  go_wp2_with fail
  clear l0 l1 f0 f1
  generalize w1.heap.size = g at *
  generalize w1.alloc (.cells #[.slice A1 cs.length cap1, .int .i64 key] 24) = w2 at *
  refine HF.out.mono ?_
  rintro e w3 ⟨rfl, hb3⟩
  replace hB := bel_trans hB hb3
  replace hV := hV.step hb3
  replace hR2 := hR2.step hb3
  clear HF hb3
  go_wp2_with fail
  refine (HP _).out.mono ?_
  rintro e w4 ⟨hb4, v4, rfl, ho4⟩
  replace hB := bel_trans hB hb4
  replace hV := hV.step hb4
  replace hR2 := hR2.step hb4
  have hR4 := ho4.read
  obtain ⟨A4, cap4, rfl, _⟩ := id hR4
  clear HP hb4 ho4
  simp only at hR4 ⊢
  have hal : Below w4.heap.size w4 (w4.alloc (.cells #[.slice A4 cs.length cap4, .int .i64 key] 24)) := (Below.refl _ _).alloc (Nat.le_refl _) _
  have hV4 := Var2.new w4 (.slice A4 cs.length cap4) (.int .i64 key) 24
  have hV3 := hV
  have hlt : g < w4.heap.size := hV.lt
  replace hV := hV.step hal
  replace hR2 := hR2.step hal
  replace hR4 := hR4.step hal
  replace hB := bel_trans hB hal
  clear hal
  obtain ⟨l0, l1, _, _⟩ := hV3
  go_wp2_with fail
  clear l0 l1
  generalize w4.heap.size = g4 at *
  generalize w4.alloc (.cells #[.slice A4 cs.length cap4, .int .i64 key] 24) = w5 at *
  refine (hAw _).out.mono ?_
  rintro e w6 ⟨rfl, hb6⟩
  have hSS := Lib.hid (HS _ _ key cs w6 (hR4.step hb6) (hR2.step hb6)).out
  obtain ⟨l0, l1, _, _⟩ := hV.step hb6
  obtain ⟨m0, m1, _, _⟩ := hV4.step hb6
  replace hB := bel_trans hB hb6
  clear hV hV4 HS hAw
  go_wp2_with fail
  refine hSS.out.mono ?_
  rintro e w7 ⟨rfl, hb7⟩
  go_wp2_with fail
  go_ret
  exact RetB.mk rfl (bel_trans hB hb7)
set_option maxRecDepth 100000 in
set_option maxHeartbeats 4000000 in
theorem schemaRoundTrip_lifted (os : Os) (started : os.Started) (H : Type) (enc : TypeId × Value → H) :
    ReturnsInHanded {} Tryd.checked os 6 .any (fun w args => (Rows.schemaRoundTripSpec.pre enc Tryd.prog Tryd.f6 Rows.schemaRoundTripRow.domain false w args ∧ laidMetH Tryd.prog Rows.schemaRoundTripRow.laid w) ∧ sizedMet enc Tryd.prog Tryd.f6 (OpenSpec.ofChange Rows.schemaRoundTripSpec) false w args) (Rows.schemaRoundTripSpec.post enc Tryd.prog Tryd.f6 false true false false) := by
  refine laid_lifted (C := Tryd.checked) (tb := 4) (laid := Rows.schemaRoundTripRow.laid) started Tryd.own Tryd.laidOut (by kernel_rfl) Tryd.func6
    (ChangeSpec.witness_shaped (enc := enc) (C := Tryd.checked) (os := os) (X := fun w _ => laidMetH Tryd.prog Rows.schemaRoundTripRow.laid w) false (World.laidAll Tryd.prog os Rows.schemaRoundTripRow.laid) #[.slice none 0 0] 8 (World.laidAll_os _ _ _) (World.shaped_of_ZipB (by kernel_rfl) (by kernel_rfl)) (by kernel_rfl) (by kernel_rfl) (by kernel_rfl) (by rw [MakeChecks.laidMetH_plain _ _ _ (by kernel_rfl)]; exact laidMet_laidAll _ (by kernel_rfl) (by kernel_rfl)))
    rfl rfl Tryd.underlying4 (by kernel_rfl) (fun ds h => ?_) (fun W base args ds p hval0 hA0 hsz0 hlt hL => ?_)
  · have h' : ds.length = Tryd.f6.params.toList.length := h
    rw [Tryd.params6] at h'
    match ds, h' with
    | [_], _ => rfl
  · have hval : ∀ (j : Nat) t v, Tryd.f6.params[j]? = some t → args[j]? = some v → Value.okWide Tryd.prog W .any base t v := hval0
    have hA : DataW.TrodAll enc Tryd.prog W 0 (fun _ => true) true Tryd.f6.params.toList args.toList ds p := hA0
    have hsz : (DataW.weightsEach Tryd.prog Tryd.f6.params.toList ds).all (· ≤ reachBytes) = true := hsz0
    rw [Tryd.params6] at hA hval hsz
    clear hA0 hval0 hsz0
    have ht : TabOk W := tab_of_laid hL
    clear hL
    obtain ⟨v0, vs0, d0, ds0, p0, q0, hargs, rfl, rfl, h0, r0⟩ := trodAll_cons hA
    obtain ⟨rfl, rfl, rfl⟩ := trodAll_nil r0
    obtain rfl : args = #[v0] := by cases args; simp_all
    obtain ⟨zl, rl, wl, bl⟩ := open_rdI Tryd.underlying37 Tryd.underlying3 (by kernel_rfl) (hval 0 37 v0 rfl rfl) h0 hsz (j := 0) rfl rfl
    change Calls Tryd.prog 6 #[v0] W (RetB (.bool true) W)
    exact round_walk v0 zl W rl wl
theorem schemaRoundTrip_holds : Rows.SchemaRoundTripSaid :=
  OpenClaim.holds_of_wide 6 Tryd.f6 rfl rfl rfl rfl rfl rfl rfl ⟨rfl, rfl, rfl, rfl, rfl⟩ rfl rfl rfl rfl rfl (by kernel_rfl) Tryd.func6 (by kernel_rfl)
    (of_decide_eq_true (by kernel_rfl)) (by unfold Func.isWrapper; first | (rw [if_pos (by decide +kernel)]; kernel_rfl) | (rw [if_neg (by decide +kernel)]; exact ⟨rfl, rfl⟩))
    (fun os started H enc _ => schemaRoundTrip_lifted os started H enc)
theorem schemaRoundTrip_card : Rows.SchemaRoundTripCardSaid :=
  Claim7.holds_tied_plain_at .later [] [.data, .data, .data] true Rows.schemaRoundTripCard.stood.harness false schemaRoundTrip_holds (fun _ h => by cases h) (by kernel_rfl) (fun _ h => by cases h) schemaRoundTrip_row_tie rfl ⟨rfl, rfl⟩ (by kernel_rfl) rfl
    (fun f fn hf hfn => by
      obtain rfl : f = 6 := Option.some.inj ((show Tryd.prog.funcNamed Rows.schemaRoundTripRow.func = some 6 by kernel_rfl).symm.trans hf) |>.symm
      obtain rfl : fn = Tryd.f6 := (Option.some.inj (Tryd.func6.symm.trans hfn)).symm
      exact ⟨by kernel_rfl, fun j t ht => by
        rw [Tryd.params6] at ht
        have hm : t ∈ [37] := by simpa using Array.mem_of_getElem? ht
        have hall : ([37].all fun u => !Tryd.prog.wantsStandIn u) = true := by kernel_rfl
        exact (show Tryd.prog.wantsStandIn t = false by simpa using List.all_eq_true.1 hall t hm)⟩)
    (by kernel_rfl)
end Go.Proofs.YtfkdenlpailmeaaDoor
