/- The statements of layer 10, each out of the contracts. -/
import Derived.Test.YtikokmafofbofaaDctK
import Derived.BigQuiet
namespace Go.DI
open Go.RowKit Go.VB Go.VarM Go.BP Go.RL
theorem wrds_le {ws : List ByteArray} {n : Nat} (h : ∀ x ∈ ws, x.size ≤ n) (hn : n < 18446744073709551616) : (wrds ws).length ≤ ws.length * (10 + n) := by
  induction ws with
  | nil => simp [wrds_nil]
  | cons w ws ih =>
    have h1 := h w (List.mem_cons_self ..)
    have h2 := ih (fun x hx => h x (List.mem_cons_of_mem _ hx))
    have h3 := putL_len10 (n := w.size) (by omega)
    rw [wrds_cons, List.length_append, wrd, List.length_append, size_list, List.length_cons, Nat.add_mul, Nat.one_mul]
    omega
theorem wrds_mem {ws : List ByteArray} {w : ByteArray} (h : w ∈ ws) : w.size ≤ (wrds ws).length := by
  induction ws with
  | nil => simp at h
  | cons x ws ih =>
    rw [wrds_cons, List.length_append, wrd, List.length_append, size_list]
    rcases List.mem_cons.1 h with h | h
    · subst h; omega
    · have := ih h; omega
theorem enc_small {l : List ByteArray} (hl : l.length ≤ 120) (h : ∀ x ∈ l, x.size ≤ 3) : (encD l).length ≤ 8000 ∧ 1 ≤ (encD l).length := by
  have h1 := srt_len l
  have h2 := wrds_le (ws := srt l) (n := 3) (fun x hx => h x (srt_mem.1 hx)) (by decide)
  have h3 := packed_le (u := idx l) (w := wdt (srt l).length) (by rw [idx_len]; omega) (wdt_le (by omega))
  have h4 := putL_len10 (n := (srt l).length) (by omega)
  have h5 := putL_pos (srt l).length
  rw [encD_in (by omega), encW, List.length_append, List.length_append]
  omega
theorem enc_size {l : List ByteArray} (hl : l.length ≤ 4096) {w : ByteArray} (hw : w ∈ l) : w.size ≤ (encD l).length := by
  have := wrds_mem (srt_mem.2 hw)
  rw [encD_in hl, encW, List.length_append, List.length_append]
  omega
theorem small_max {l : List ByteArray} (h : ∀ x ∈ l, x.size ≤ 3) : ∀ x ∈ l, x.size ≤ maxLen := fun x hx => Nat.le_trans (h x hx) (by decide)
end Go.DI
namespace Go.Proofs.Ytikokmafofbofaa
open Go.RowKit Go.VB Go.VarM Go.BP Go.RL Go.DI Go.KS Go.ChangeShapes Go.WideShapes Go.ChangeAt
open Go.ChangeMaps (open_string)
set_option linter.constructorNameAsVariable false
theorem Try.own : ownKnob Try.prog.godebug = none := by kernel_rfl
theorem Try.laidOut : laidOutB Try.prog = true := by kernel_rfl

set_option maxRecDepth 100000 in
set_option maxHeartbeats 4000000 in
theorem dictExamples_lifted (os : Os) (started : os.Started) (H : Type) (enc : TypeId × Value → H) :
    ReturnsInHanded {} Try.checked os 3 .any (Rows.dictExamplesSpec.pre6 enc Try.prog Try.f3 Rows.dictExamplesRow.domain false) (Rows.dictExamplesSpec.post enc Try.prog Try.f3 false true false false) := by
  refine law_lifted (C := Try.checked) (tb := 4) started Try.own Try.laidOut (by kernel_rfl) Try.func3
    (ChangeSpec.witness6 (enc := enc) (C := Try.checked) false ⟨#[], #[], []⟩ 8 (by kernel_rfl) (by kernel_rfl) (by kernel_rfl) (by kernel_rfl))
    rfl rfl Try.underlying4 (by kernel_rfl) (fun ds h => ?_) (fun W base args ds p hval0 hA0 hsz0 hlt => ?_)
  · have h' : ds.length = Try.f3.params.toList.length := h
    rw [Try.params3] at h'
    match ds, h' with
    | [], _ => rfl
  · have hval : ∀ (j : Nat) t v, Try.f3.params[j]? = some t → args[j]? = some v → Value.okWide Try.prog W .any base t v := hval0
    have hA : DataW.TrodAll enc Try.prog W 0 (fun _ => true) true Try.f3.params.toList args.toList ds p := hA0
    have hsz : (DataW.weightsEach Try.prog Try.f3.params.toList ds).all (· ≤ reachBytes) = true := hsz0
    rw [Try.params3] at hA hval hsz
    clear hA0 hval0 hsz0
    obtain ⟨hargs, rfl, rfl⟩ := trodAll_nil hA
    obtain rfl : args = #[] := by cases args; simp_all
    change Calls Try.prog 3 #[] W (RetB (.bool true) W)
    have hbd := build_any _ [⟨#[98]⟩, ⟨#[97]⟩, ⟨#[98]⟩] _ _ (bab_lit 9 3 (by decide) (by decide) W) (by simp) (by decide) (by intro x hx; simp at hx; rcases hx with rfl | rfl | rfl <;> decide)
    rw [srt_bab, idx_bab] at hbd
    have HBD := Lib.hid hbd
    clear hbd
    go_enter Try.func3, Try.ntmps3
    go_wp2_with fail
    refine HBD.out.mono ?_
    rintro e w1 ⟨v1, v2, rfl, hr1, hr2, hb1⟩
    have hB := ((Below.refl W.heap.size W).alloc (Nat.le_refl _) (.cells #[.string ⟨#[98]⟩, .string ⟨#[97]⟩, .string ⟨#[98]⟩] 9)).trans (hb1.mono (by simp))
    clear hb1 HBD
    go_wp2_with fail
    refine (encbab_any _ _ (by decide) (by decide) _).mono ?_
    rintro e w2 ⟨rfl, hb2⟩
    have hb := ((Below.refl w1.heap.size w1).alloc (Nat.le_refl _) (.cells #[.string ⟨#[98]⟩, .string ⟨#[97]⟩, .string ⟨#[98]⟩] 9)).trans (hb2.mono (by simp))
    replace hr1 := hr1.step hb; replace hr2 := hr2.step hb
    replace hB := bel_trans hB hb
    clear hb hb2
    go_wp2_with fail
    refine (same_s_eq _ _ [⟨#[97]⟩, ⟨#[98]⟩] (w2.heap.size + 1) _ ((hr1.below ((Below.refl w2.heap.size w2).alloc (Nat.le_refl _) _)).more (Nat.le_succ _)) (RdV.lit Value.string w2 [⟨#[97]⟩, ⟨#[98]⟩] 2 9 (by decide) (by decide)) (by simp)).mono ?_
    rintro e w3 ⟨rfl, hb3⟩
    have hb := ((Below.refl w2.heap.size w2).alloc (Nat.le_refl _) (.cells #[.string ⟨#[97]⟩, .string ⟨#[98]⟩] 9)).trans (hb3.mono (by simp))
    replace hr2 := hr2.step hb
    replace hB := bel_trans hB hb
    clear hb hb3 hr1
    go_wp2_with fail
    refine (same_n_eq _ _ [1, 0, 1] (w3.heap.size + 1) _ ((hr2.below ((Below.refl w3.heap.size w3).alloc (Nat.le_refl _) _)).more (Nat.le_succ _)) (RdV.lit nI w3 [1, 0, 1] 3 3 (by decide) (by decide)) (by simp)).mono ?_
    rintro e w4 ⟨rfl, hb4⟩
    have hb := ((Below.refl w3.heap.size w3).alloc (Nat.le_refl _) (.cells #[.int .i64 1, .int .i64 0, .int .i64 1] 3)).trans (hb4.mono (by simp))
    replace hB := bel_trans hB hb
    clear hb hb4 hr2
    go_wp2
    go_ret
    exact RetB.mk rfl hB
theorem dictExamples_holds : Rows.DictExamplesSaid :=
  OpenClaim.holds_of_wide 3 Try.f3 rfl rfl rfl rfl rfl rfl rfl ⟨rfl, rfl, rfl, rfl, rfl⟩ rfl rfl rfl rfl rfl (by kernel_rfl) Try.func3 (by kernel_rfl)
    (of_decide_eq_true (by kernel_rfl)) (by unfold Func.isWrapper; first | (rw [if_pos (by decide +kernel)]; kernel_rfl) | (rw [if_neg (by decide +kernel)]; exact ⟨rfl, rfl⟩))
    (fun os started H enc _ => dictExamples_lifted os started H enc)

set_option maxRecDepth 100000 in
set_option maxHeartbeats 4000000 in
theorem dictDecodes_lifted (os : Os) (started : os.Started) (H : Type) (enc : TypeId × Value → H) :
    ReturnsInHanded {} Try.checked os 6 .any (Rows.dictDecodesSpec.pre6 enc Try.prog Try.f6 Rows.dictDecodesRow.domain false) (Rows.dictDecodesSpec.post enc Try.prog Try.f6 false true false false) := by
  refine law_lifted (C := Try.checked) (tb := 4) started Try.own Try.laidOut (by kernel_rfl) Try.func6
    (ChangeSpec.witness6 (enc := enc) (C := Try.checked) false ⟨#[], #[.string ⟨#[]⟩, .int .i64 0], []⟩ 8 (by kernel_rfl) (by kernel_rfl) (by kernel_rfl) (by kernel_rfl))
    rfl rfl Try.underlying4 (by kernel_rfl) (fun ds h => ?_) (fun W base args ds p hval0 hA0 hsz0 hlt => ?_)
  · have h' : ds.length = Try.f6.params.toList.length := h
    rw [Try.params6] at h'
    match ds, h' with
    | [_, _], _ => rfl
  · have hval : ∀ (j : Nat) t v, Try.f6.params[j]? = some t → args[j]? = some v → Value.okWide Try.prog W .any base t v := hval0
    have hA : DataW.TrodAll enc Try.prog W 0 (fun _ => true) true Try.f6.params.toList args.toList ds p := hA0
    have hsz : (DataW.weightsEach Try.prog Try.f6.params.toList ds).all (· ≤ reachBytes) = true := hsz0
    rw [Try.params6] at hA hval hsz
    clear hA0 hval0 hsz0
    obtain ⟨v0, vs0, d0, ds0, p0, q0, hargs, rfl, rfl, h0, r0⟩ := trodAll_cons hA
    obtain ⟨v1, vs1, d1, ds1, p1, q1, rfl, rfl, rfl, h1, r1⟩ := trodAll_cons r0
    obtain ⟨rfl, rfl, rfl⟩ := trodAll_nil r1
    obtain rfl : args = #[v0, v1] := by cases args; simp_all
    obtain ⟨s, rfl, rfl, rfl, _⟩ := open_string Try.underlying9 (hval 0 9 v0 rfl rfl) h0
    have zs : s.size ≤ 140737488351232 := by have h := sized_string hsz (j := 0) (t := 9) rfl rfl; rw [size_list] at h; exact h
    obtain ⟨n, rfl, rfl, rfl, wn⟩ := open_int Try.underlying3 (hval 1 3 v1 rfl rfl) h1
    change Calls Try.prog 6 #[.string s, .int .i64 n] W (RetB (.bool true) W)
    have HPK := fun w => Lib.hid (pick_at n 40 w wn (by omega) (by omega))
    have hp := pickN_bd n (n := 40) (by omega)
    generalize pickN n 40 = p at *
    obtain ⟨p1, p2⟩ := hp
    have hB := Below.refl W.heap.size W
    have H1 := fun w => Lib.hid (decodes_any s (p - 1) w zs)
    have H2 := fun w => Lib.hid (decodes_any s n w zs)
    go_enter Try.func6, Try.ntmps6
    go_wp2_with fail
    refine (awake10_any _).mono ?_; rintro e w1 ⟨rfl, hb⟩; replace hB := bel_trans hB hb; clear hb
    go_wp2_with fail
    refine (HPK _).out.mono ?_; rintro e w' ⟨rfl, rfl⟩
    go_wp2_with fail
    refine (H1 _).out.mono ?_; rintro e w2 ⟨rfl, hb⟩; replace hB := bel_trans hB hb; clear hb
    go_wp2_with fail
    refine (H2 _).out.mono ?_; rintro e w3 ⟨rfl, hb⟩; replace hB := bel_trans hB hb; clear hb
    clear H1 H2 HPK
    go_wp2
    go_ret
    exact RetB.mk rfl hB
theorem dictDecodes_holds : Rows.DictDecodesSaid :=
  OpenClaim.holds_of_wide 6 Try.f6 rfl rfl rfl rfl rfl rfl rfl ⟨rfl, rfl, rfl, rfl, rfl⟩ rfl rfl rfl rfl rfl (by kernel_rfl) Try.func6 (by kernel_rfl)
    (of_decide_eq_true (by kernel_rfl)) (by unfold Func.isWrapper; first | (rw [if_pos (by decide +kernel)]; kernel_rfl) | (rw [if_neg (by decide +kernel)]; exact ⟨rfl, rfl⟩))
    (fun os started H enc _ => dictDecodes_lifted os started H enc)

set_option maxRecDepth 100000 in
set_option maxHeartbeats 4000000 in
theorem dictRoundTrip_lifted (os : Os) (started : os.Started) (H : Type) (enc : TypeId × Value → H) :
    ReturnsInHanded {} Try.checked os 8 .any (Rows.dictRoundTripSpec.pre6 enc Try.prog Try.f8 Rows.dictRoundTripRow.domain false) (Rows.dictRoundTripSpec.post enc Try.prog Try.f8 false true false false) := by
  refine law_lifted (C := Try.checked) (tb := 4) started Try.own Try.laidOut (by kernel_rfl) Try.func8
    (ChangeSpec.witness6 (enc := enc) (C := Try.checked) false ⟨#[], #[.slice none 0 0], []⟩ 8 (by kernel_rfl) (by kernel_rfl) (by kernel_rfl) (by kernel_rfl))
    rfl rfl Try.underlying4 (by kernel_rfl) (fun ds h => ?_) (fun W base args ds p hval0 hA0 hsz0 hlt => ?_)
  · have h' : ds.length = Try.f8.params.toList.length := h
    rw [Try.params8] at h'
    match ds, h' with
    | [_], _ => rfl
  · have hval : ∀ (j : Nat) t v, Try.f8.params[j]? = some t → args[j]? = some v → Value.okWide Try.prog W .any base t v := hval0
    have hA : DataW.TrodAll enc Try.prog W 0 (fun _ => true) true Try.f8.params.toList args.toList ds p := hA0
    have hsz : (DataW.weightsEach Try.prog Try.f8.params.toList ds).all (· ≤ reachBytes) = true := hsz0
    rw [Try.params8] at hA hval hsz
    clear hA0 hval0 hsz0
    obtain ⟨v0, vs0, d0, ds0, p0, q0, hargs, rfl, rfl, h0, r0⟩ := trodAll_cons hA
    obtain ⟨rfl, rfl, rfl⟩ := trodAll_nil r0
    obtain rfl : args = #[v0] := by cases args; simp_all
    obtain ⟨zm, rm, wm, bm⟩ := open_rdI Try.underlying23 Try.underlying3 (by kernel_rfl) (hval 0 23 v0 rfl rfl) h0 hsz (j := 0) rfl rfl
    change Calls Try.prog 8 #[v0] W (RetB (.bool true) W)
    clear bm
    have HK := Lib.hid (klist_any W v0 zm rm wm)
    clear rm wm
    go_enter Try.func8, Try.ntmps8
    go_wp2_with fail
    refine HK.out.mono ?_; rintro e w1 ⟨vx, lx, rfl, hown, hlx, hix, hB⟩
    obtain ⟨A, c, _, rfl, rfl, hc1, hc2⟩ := hown.read.bds
    have hrx := hown.read
    obtain ⟨hes, _⟩ := enc_small hlx hix
    have H1 := Lib.hid (encode_any _ lx _ w1 hrx (Nat.le_refl _) (by omega) (small_max hix) (by omega))
    have hde := decD_enc (l := lx) (by omega) (fun w hw => Nat.lt_of_le_of_lt (hix w hw) (by decide))
    have hse : (str (encD lx)).size ≤ 140737488351232 := by rw [str_size]; omega
    have H2 := fun w => Lib.hid (decode_any (str (encD lx)) hse (lx.length : Int) w)
    rw [hde] at H2
    clear hde hse hix hes HK hown
    generalize str (encD lx) = S at *
    have HR := Lib.hid hrx; clear hrx
    go_wp2_with fail
    refine H1.out.mono ?_; rintro e w2 ⟨rfl, hb⟩
    have hr1 := HR.out.step hb
    replace hB := bel_trans hB hb; clear hb HR H1
    go_wp2_with fail
    refine (H2 _).out.mono ?_; rintro e w3 ⟨v3, rfl, hown3, hb⟩
    replace hr1 := hr1.step hb
    have hr2 := hown3.read
    replace hB := bel_trans hB hb; clear hb hown3 H2
    go_wp2_with fail
    refine (awake10_any _).mono ?_; rintro e w4 ⟨rfl, hb⟩
    replace hr1 := hr1.step hb; replace hr2 := hr2.step hb
    replace hB := bel_trans hB hb; clear hb
    go_wp2_with fail
    refine (same_s_eq _ _ lx _ _ hr2 hr1 (Nat.le_refl _)).mono ?_; rintro e w5 ⟨rfl, hb⟩
    replace hB := bel_trans hB hb; clear hb hr1 hr2
    go_wp2
    go_ret
    exact RetB.mk rfl hB
theorem dictRoundTrip_holds : Rows.DictRoundTripSaid :=
  OpenClaim.holds_of_wide 8 Try.f8 rfl rfl rfl rfl rfl rfl rfl ⟨rfl, rfl, rfl, rfl, rfl⟩ rfl rfl rfl rfl rfl (by kernel_rfl) Try.func8 (by kernel_rfl)
    (of_decide_eq_true (by kernel_rfl)) (by unfold Func.isWrapper; first | (rw [if_pos (by decide +kernel)]; kernel_rfl) | (rw [if_neg (by decide +kernel)]; exact ⟨rfl, rfl⟩))
    (fun os started H enc _ => dictRoundTrip_lifted os started H enc)
end Go.Proofs.Ytikokmafofbofaa
