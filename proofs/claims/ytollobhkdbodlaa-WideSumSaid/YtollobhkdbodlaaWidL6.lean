/- WideSum: the sum of numbers does not depend on their order. No condition. -/
import Derived.Test.YtollobhkdbodlaaWidL1
import Derived.Test.YtollobhkdbodlaaWidW6
namespace Go.WD
open Go.RowKit Go.VB Go.DT Go.DC
theorem gmi {l : List Int} {i : Nat} (h : i < l.length) : l.getD i 0 ∈ l := by
  rw [List.getD_eq_getElem?_getD, List.getElem?_eq_getElem h]; exact List.getElem_mem h
/-- The sum of the first j elements; of j elements from the k-th on, around the end. -/
def sm (l : List Int) : Nat → Int
  | 0 => 0
  | j + 1 => sm l j + l.getD j 0
def smr (l : List Int) (k : Nat) : Nat → Int
  | 0 => 0
  | j + 1 => smr l k j + l.getD ((j + k) % l.length) 0
theorem smr_low (l : List Int) (k j : Nat) (h : j + k ≤ l.length) (hj : j < l.length ∨ k = 0 ∨ True) : smr l k j = sm l (j + k) - sm l k := by
  induction j with
  | zero => rw [Nat.zero_add]; simp [smr]
  | succ j ih =>
    have h1 := ih (by omega) (.inr (.inr trivial))
    rw [smr, h1, Nat.mod_eq_of_lt (by omega), show j + 1 + k = (j + k) + 1 from by omega, sm]
    omega
theorem smr_high (l : List Int) (k i : Nat) (hk : k ≤ l.length) (h : i ≤ k) : smr l k (l.length - k + i) = sm l l.length - sm l k + sm l i := by
  induction i with
  | zero => rw [Nat.add_zero, smr_low l k _ (by omega) (.inr (.inr trivial)), show l.length - k + k = l.length from by omega]; simp [sm]
  | succ i ih =>
    have h1 := ih (by omega)
    rw [show l.length - k + (i + 1) = (l.length - k + i) + 1 from by omega, smr, h1, sm, show l.length - k + i + k = i + l.length from by omega, Nat.add_mod_right, Nat.mod_eq_of_lt (by omega)]
    omega
theorem smr_all (l : List Int) (k : Nat) (hk : k ≤ l.length) : smr l k l.length = sm l l.length := by
  have h := smr_high l k k hk (Nat.le_refl _)
  rw [show l.length - k + k = l.length from by omega] at h
  rw [h]; omega
end Go.WD
namespace Go.Proofs.Ytollobhkdbodlaa
open Go.RowKit Go.VB Go.WD Go.DT Go.DC Go.ChangeShapes Go.WideShapes Go.ChangeAt
open Go.ChangeMaps (open_string)
set_option linter.constructorNameAsVariable false

set_option maxRecDepth 100000 in
set_option maxHeartbeats 4000000 in
theorem wideSum_lifted (os : Os) (started : os.Started) (H : Type) (enc : TypeId × Value → H) :
    ReturnsInHanded {} Try.checked os 11 .any (Rows.wideSumSpec.pre6 enc Try.prog Try.f11 Rows.wideSumRow.domain false) (Rows.wideSumSpec.post enc Try.prog Try.f11 false true false false) := by
  refine law_lifted (C := Try.checked) (tb := 4) started Try.own Try.laidOut (by kernel_rfl) Try.func11
    (ChangeSpec.witness6 (enc := enc) (C := Try.checked) false ⟨#[], #[.slice none 0 0, .int .i64 0], []⟩ 8 (by kernel_rfl) (by kernel_rfl) (by kernel_rfl) (by kernel_rfl))
    rfl rfl Try.underlying4 (by kernel_rfl) (fun ds h => ?_) (fun W base args ds p hval0 hA0 hsz0 hlt => ?_)
  · have h' : ds.length = Try.f11.params.toList.length := h
    rw [Try.params11] at h'
    match ds, h' with
    | [_, _], _ => rfl
  · have hval : ∀ (j : Nat) t v, Try.f11.params[j]? = some t → args[j]? = some v → Value.okWide Try.prog W .any base t v := hval0
    have hA : DataW.TrodAll enc Try.prog W 0 (fun _ => true) true Try.f11.params.toList args.toList ds p := hA0
    have hsz : (DataW.weightsEach Try.prog Try.f11.params.toList ds).all (· ≤ reachBytes) = true := hsz0
    rw [Try.params11] at hA hval hsz
    clear hA0 hval0 hsz0
    obtain ⟨v0, vs0, d0, ds0, p0, q0, hargs, rfl, rfl, h0, r0⟩ := trodAll_cons hA
    obtain ⟨v1, vs1, d1, ds1, p1, q1, rfl, rfl, rfl, h1, r1⟩ := trodAll_cons r0
    obtain ⟨rfl, rfl, rfl⟩ := trodAll_nil r1
    obtain rfl : args = #[v0, v1] := by cases args; simp_all
    obtain ⟨zl, rl, wl, bl⟩ := open_rdI Try.underlying46 Try.underlying2 (by kernel_rfl) (hval 0 46 v0 rfl rfl) h0 hsz (j := 0) rfl rfl
    obtain ⟨k, rfl, rfl, rfl, wk⟩ := open_int Try.underlying3 (hval 1 3 v1 rfl rfl) h1
    change Calls Try.prog 11 #[v0, .int .i64 k] W (RetB (.bool true) W)
    have hAw := fun w => Lib.hid (awake13_any w)
    have hlen : zl.length ≤ 17592186044416 := by rw [show Try.prog.bytesOf 2 = 8 from by kernel_rfl] at bl; omega
    have hP := fun w => Lib.hid (pick_at k ((zl.length : Int) + 1) w wk (by omega) (by omega))
    have hk := pickN_bd k (n := (zl.length : Int) + 1) (by omega)
    generalize pickN k ((zl.length : Int) + 1) = K at *
    obtain ⟨K, rfl⟩ := Int.eq_ofNat_of_zero_le hk.1
    have hK : K ≤ zl.length := by omega
    clear hk wk bl
    obtain ⟨A, cap, rfl, hcap, hmx, hrr⟩ := rl
    have hwz : ∀ z ∈ zl, I64w z := fun z hz => by obtain ⟨h1, h2⟩ := bounds_i64 (wl z hz); unfold I64w; omega
    have HWZ := Lib.hid hwz
    clear wl hwz
    unfold maxLen at hmx
    have v5 := (Var2.new W (.int .i64 0) (.int .u64 0) 24).alloc (.cells #[.int .i64 0, .int .u64 0] 24)
    have v6 := Var2.new (W.alloc (.cells #[.int .i64 0, .int .u64 0] 24)) (.int .i64 0) (.int .u64 0) 24
    have hb0 : Below W.heap.size W ((W.alloc (.cells #[.int .i64 0, .int .u64 0] 24)).alloc (.cells #[.int .i64 0, .int .u64 0] 24)) := by go_grown
    rw [alloc_sz] at v6
    have hz0 : (0 : Int) = hi (sm zl 0) := by show 0 = hi 0; unfold hi wrap64; omega
    have hz1 : (0 : Int) = lo (sm zl 0) := by show 0 = lo 0; unfold lo; omega
    have hz2 : (0 : Int) = hi (smr zl K 0) := hz0
    have hz3 : (0 : Int) = lo (smr zl K 0) := hz1
    have Z0 := Lib.hid hz0; have Z1 := Lib.hid hz1; have Z2 := Lib.hid hz2; have Z3 := Lib.hid hz3; have HRR := Lib.hid hrr
    clear hz0 hz1 hz2 hz3 hrr
    go_enter Try.func11, Try.ntmps11
    go_wp2_with (go_at_call 27; (with_reducible refine (hP _).out.mono ?_); rintro e w' ⟨rfl, rfl⟩)
    go_loopw [18] (fun i wr => ∃ j : Nat, i = .int .i64 j ∧ j ≤ zl.length ∧ Var2 wr W.heap.size (.int .i64 (hi (sm zl j))) (.int .u64 (lo (sm zl j))) ∧ Var2 wr (W.heap.size + 1) (.int .i64 (hi (smr zl K j))) (.int .u64 (lo (smr zl K j))) ∧ Below W.heap.size W wr) (fun i _ => zl.length - (intOf i).toNat)
    case atStart => exact ⟨0, rfl, Nat.zero_le _, v5.cast (vint Z0.out.symm) (vint Z1.out.symm), v6.cast (vint Z2.out.symm) (vint Z3.out.symm), hb0⟩
    case round =>
      clear v5 v6 hb0 Z0 Z1 Z2 Z3
      obtain ⟨j, rfl, hj, v5, v6, hbel⟩ := hrel
      by_cases hlt : j < zl.length
      · obtain ⟨ad, rfl, hbk, hcj⟩ := HRR.out j hlt
        have hr : (j + K) % zl.length < zl.length := Nat.mod_lt _ (by omega)
        obtain ⟨ad2, had, hbk2, hcr⟩ := HRR.out _ hr
        obtain rfl := Option.some.inj had
        clear had
        have hs1 : sm zl (j + 1) = sm zl j + zl.getD j 0 := rfl
        have hs2 : smr zl K (j + 1) = smr zl K j + zl.getD ((j + K) % zl.length) 0 := rfl
        have hm1 := HWZ.out _ (gmi hlt)
        have hm2 := HWZ.out _ (gmi hr)
        have hmod : ((j : Int) + (K : Int)).tmod (zl.length : Int) = (((j + K) % zl.length : Nat) : Int) := by
          rw [Int.tmod_eq_emod_of_nonneg (by omega)]; rw [Int.natCast_emod]; rfl
        have hmod2 : ((j : Int) + (K : Int)) % (zl.length : Int) = (((j + K) % zl.length : Nat) : Int) := by rw [Int.natCast_emod]; rfl
        generalize gr : (j + K) % zl.length = r at *
        generalize zl.getD j 0 = y1 at *
        generalize zl.getD r 0 = y2 at *
        have g1 := fun w => Lib.hid (wof_any y1 w hm1)
        have g2 := fun w => Lib.hid (wof_any y2 w hm2)
        have g3 := fun w => Lib.hid (wadd_any (sm zl j) y1 w)
        have g4 := fun w => Lib.hid (wadd_any (smr zl K j) y2 w)
        rw [← hs1] at g3
        rw [← hs2] at g4
        simp only [wd_is] at g1 g2 g3 g4
        clear hs1 hs2 hm1 hm2 gr
        generalize e1 : hi (sm zl (j + 1)) = p1 at *
        generalize e2 : lo (sm zl (j + 1)) = u1 at *
        generalize e3 : hi (smr zl K (j + 1)) = p2 at *
        generalize e4 : lo (smr zl K (j + 1)) = u2 at *
        have E1 := Lib.hid e1; have E2 := Lib.hid e2; have E3 := Lib.hid e3; have E4 := Lib.hid e4
        clear e1 e2 e3 e4
        generalize hi y1 = p3 at *
        generalize lo y1 = u3 at *
        generalize hi y2 = p4 at *
        generalize lo y2 = u4 at *
        generalize hi (sm zl j) = p5 at *
        generalize lo (sm zl j) = u5 at *
        generalize hi (smr zl K j) = p6 at *
        generalize lo (smr zl K j) = u6 at *
        have hc1 := fun (w' : World) (hb : Below W.heap.size W w') => Lib.hid (And.intro ((hb.cell (p := ad.add j) (by rw [Go.VB.block_add]; exact hbk)).trans hcj) ((hb.cell (p := ad.add r) (by rw [Go.VB.block_add]; exact hbk)).trans hcr))
        clear hcj hcr HRR HWZ
        have HV := fun (w' : World) (hb : Below wr.heap.size wr w') => Lib.hid (And.intro (bel_trans hbel hb) (And.intro (v5.step hb) (And.intro (v6.step hb) (hc1 _ (bel_trans hbel hb)).out)))
        clear v5 v6 hbel
        go_wp2_with fail
        refine Go.ConflA.wp_region_tail_at 7 (by simp only [List.take_succ_cons, List.take_zero, List.map_cons, List.map_nil]; rfl) (by kernel_rfl) (by kernel_rfl) (by kernel_rfl) (by kernel_rfl) (by kernel_rfl) (Nat.zero_lt_succ _) (by kernel_rfl) ?_
        simp only [List.take_succ_cons, List.take_zero, List.drop_succ_cons, List.drop_zero]
        iterate 7
          first
          | (refine Go.ConflA.chainA_skip (Go.Confl.unwanted_is rfl rfl) ?_)
          | (first | apply Go.ConflA.chainA_is _ (Go.Confl.wanted_none rfl) | apply Go.ConflA.chainA_is _ (Go.Confl.wanted_is rfl rfl)
             · intro b w hr hb K hK
               simp [Go.Confl.readFacts, Go.Confl.tmpsOf, Go.Confl.writerOf, Go.Confl.Is, Op.operands, Call.operands, List.findIdx?, List.findIdx?.go] at hr
               obtain ⟨-, ⟨a0, a1, -, -⟩, ⟨-, -, -, -⟩, hx1, -⟩ := (HV _ hb).out
               go_wp2_with (first
                 | (go_at_call 13; (with_reducible refine (g1 _).out.mono ?_); rintro e w' ⟨rfl, hb'⟩)
                 | (go_at_call 12; (with_reducible refine (g3 _).out.mono ?_); rintro e w' ⟨rfl, hb'⟩))
               try (simp only [hr]; go_wp2)
               exact hK _ _ rfl (by first | exact Below.refl _ _ | assumption))
          simp only [List.nil_append, List.cons_append]
        intro us w hp hdist hb
        simp [Go.Confl.allPosts, Go.Confl.Is] at hp
        simp only [Go.Confl.putsFrom, Act.put, List.setIfInBounds_toArray, List.set_cons_zero, List.set_cons_succ]
        change wpList _ _ _ _ _ _
        obtain ⟨e0, e1, e2, e3, e4, e5, e6⟩ := hp
        simp only [e0, e1, e2, e3, e4, e5, e6]
        clear e0 e1 e2 e3 e4 e5 e6 hdist g1 g3
        obtain ⟨hbel, v5, v6, -, -⟩ := (HV _ hb).out
        have v5' := v5.set (.int .i64 p1) (.int .u64 u1)
        have v6' := v6.other (show W.heap.size + 1 ≠ W.heap.size by omega) (.int .i64 p1) (.int .u64 u1)
        have hbel' := set2_below hbel (Nat.le_refl _) (.int .i64 p1) (.int .u64 u1)
        obtain ⟨d0, d1, d2, d3⟩ := v5
        clear HV hbel v6 hb
        go_wp2_with fail
        clear d0 d1 d2 d3
        generalize ((w.setCell ⟨W.heap.size, 0, none⟩ (.int .i64 p1)).setCell ⟨W.heap.size, 1, none⟩ (.int .u64 u1)) = w3 at *
        have HV := fun (w' : World) (hb : Below w3.heap.size w3 w') => Lib.hid (And.intro (bel_trans hbel' hb) (And.intro (v5'.step hb) (And.intro (v6'.step hb) (hc1 _ (bel_trans hbel' hb)).out)))
        clear v5' v6' hbel' hc1
        have hr2 : (r : Int) < (zl.length : Int) := by omega
        have hl0 : ((zl.length : Int) == 0) = false := beq_eq_false_iff_ne.2 (by omega)
        have hl1 : ¬ (zl.length : Int) = 0 := by omega
        have hl2 : ¬ zl = [] := fun h => by rw [h] at hlt; exact absurd hlt (Nat.not_lt_zero _)
        have hl3 : ¬ zl.length = 0 := by omega
        have hmod3 : IntKind.i64.wrap (((j : Int) + (K : Int)).tmod (zl.length : Int)) = (r : Int) := by rw [hmod, IntKind.wrap_i64]; omega
        have hmod4 : wrap64 (((j : Int) + (K : Int)).tmod (zl.length : Int)) = (r : Int) := by rw [hmod]; unfold wrap64; omega
        refine Go.ConflA.wp_region_tail_at 12 (by simp only [List.take_succ_cons, List.take_zero, List.map_cons, List.map_nil]; rfl) (by kernel_rfl) (by kernel_rfl) (by kernel_rfl) (by kernel_rfl) (by kernel_rfl) (Nat.zero_lt_succ _) (by kernel_rfl) ?_
        simp only [List.take_succ_cons, List.take_zero, List.drop_succ_cons, List.drop_zero]
        iterate 12
          first
          | (refine Go.ConflA.chainA_skip (Go.Confl.unwanted_is rfl rfl) ?_)
          | (first | apply Go.ConflA.chainA_is _ (Go.Confl.wanted_none rfl) | apply Go.ConflA.chainA_is _ (Go.Confl.wanted_is rfl rfl)
             · intro b w hr hb K hK
               simp [Go.Confl.readFacts, Go.Confl.tmpsOf, Go.Confl.writerOf, Go.Confl.Is, Op.operands, Call.operands, List.findIdx?, List.findIdx?.go] at hr
               obtain ⟨-, -, ⟨c0, c1, -, -⟩, -, hx2⟩ := (HV _ hb).out
               go_wp2_with (first
                 | (go_at_call 13; (with_reducible refine (g2 _).out.mono ?_); rintro e w' ⟨rfl, hb'⟩)
                 | (go_at_call 12; (with_reducible refine (g4 _).out.mono ?_); rintro e w' ⟨rfl, hb'⟩))
               try (simp only [hr]; go_wp2)
               exact hK _ _ rfl (by first | exact Below.refl _ _ | assumption))
          simp only [List.nil_append, List.cons_append]
        intro us w hp hdist hb
        simp [Go.Confl.allPosts, Go.Confl.Is] at hp
        simp only [Go.Confl.putsFrom, Act.put, List.setIfInBounds_toArray, List.set_cons_zero, List.set_cons_succ]
        change wpList _ _ _ _ _ _
        obtain ⟨e0, e1, e2, e3, e4, e5, e6, e7, e8, e9, eA, eB⟩ := hp
        simp only [e0, e1, e2, e3, e4, e5, e6, e7, e8, e9, eA, eB]
        clear e0 e1 e2 e3 e4 e5 e6 e7 e8 e9 eA eB hdist g2 g4
        rename_i wq
        obtain ⟨hbel, v5, v6, -, -⟩ := (HV _ hb).out
        have v6' := v6.set (.int .i64 p2) (.int .u64 u2)
        have v5' := v5.other (show W.heap.size ≠ W.heap.size + 1 by omega) (.int .i64 p2) (.int .u64 u2)
        have hbel' := set2_below hbel (Nat.le_succ _) (.int .i64 p2) (.int .u64 u2)
        obtain ⟨d0, d1, d2, d3⟩ := v6
        clear HV hbel v5 hb
        go_wp2
        exact ⟨⟨j + 1, by go_num, by omega, v5'.cast (vint E1.out) (vint E2.out), v6'.cast (vint E3.out) (vint E4.out), hbel'⟩, by simp [intOf] <;> omega⟩
      · obtain rfl : j = zl.length := by omega
        have hs := smr_all zl K hK
        rw [hs] at v6
        clear hlt hs HRR HWZ hP
        generalize hi (sm zl zl.length) = p1 at *
        generalize lo (sm zl zl.length) = u1 at *
        have HV := fun (w' : World) (hb : Below wr.heap.size wr w') => Lib.hid (And.intro (bel_trans hbel hb) (And.intro (v5.step hb) (v6.step hb)))
        clear v5 v6 hbel
        go_wp2_with fail
        (with_reducible refine (hAw _).out.mono ?_)
        rintro e w9 ⟨rfl, hb9⟩
        obtain ⟨hbb, ⟨a0, a1, -, -⟩, ⟨c0, c1, -, -⟩⟩ := (HV _ hb9).out
        go_wp2
        go_ret
        exact RetB.mk rfl hbb
theorem wideSum_holds : Rows.WideSumSaid :=
  OpenClaim.holds_of_wide 11 Try.f11 rfl rfl rfl rfl rfl rfl rfl ⟨rfl, rfl, rfl, rfl, rfl⟩ rfl rfl rfl rfl rfl (by kernel_rfl) Try.func11 (by kernel_rfl)
    (of_decide_eq_true (by kernel_rfl)) (by unfold Func.isWrapper; first | (rw [if_pos (by decide +kernel)]; kernel_rfl) | (rw [if_neg (by decide +kernel)]; exact ⟨rfl, rfl⟩))
    (fun os started H enc _ => wideSum_lifted os started H enc)
end Go.Proofs.Ytollobhkdbodlaa
