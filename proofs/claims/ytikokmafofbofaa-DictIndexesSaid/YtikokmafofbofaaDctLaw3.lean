/- The statement of layer 10 on the indices. -/
import Derived.Test.YtikokmafofbofaaDctLaw
namespace Go.Proofs.Ytikokmafofbofaa
open Go.RowKit Go.VB Go.VarM Go.BP Go.RL Go.DI Go.KS Go.ChangeShapes Go.WideShapes Go.ChangeAt
open Go.ChangeMaps (open_string)
set_option linter.constructorNameAsVariable false
theorem row_drewN {α : Type} {f : α → Value} {e : TypeId} {w : World} {base g c : Nat} {l : List α} (k : Nat) (h : RowV f e w base g c l) : RowV f e (w.drewN k) base g c l := by
  induction k generalizing w with
  | zero => exact h
  | succ k ih => exact ih h.drew
theorem belowN {n : Nat} {w w' : World} (h : Below n w w') (k : Nat) : Below n w (w'.drewN k) := by
  induction k generalizing w' with
  | zero => exact h
  | succ k ih => exact (ih h).drew
set_option maxRecDepth 100000 in
set_option maxHeartbeats 4000000 in
theorem didx_walk (v0 : Value) (zl : List Int) (W : World) (rl : RdI .i64 W W.heap.size v0 zl) (wl : ∀ z ∈ zl, (Lit.int .i64 z).wf = true) :
    Calls Try.prog 5 #[v0] W (RetB (.bool true) W) := by
  have HK := Lib.hid (klist_any W v0 zl rl wl)
  clear rl wl
  go_enter Try.func5, Try.ntmps5
  go_wp2_with fail
  refine HK.out.mono ?_; rintro e w1 ⟨vx, lx, rfl, hown, hlx, hix, hB⟩
  obtain ⟨A, c, _, rfl, rfl, hc1, hc2⟩ := hown.read.bds
  have hrx := hown.read
  have HBD := Lib.hid (build_any _ lx _ w1 hrx (Nat.le_refl _) (by omega) (small_max hix))
  have hSl := srt_len lx
  have hSa := srt_asc lx
  have hIx := fun j s (h : lx[j]? = some s) => idx_at h
  have hIb := fun j s (h : lx[j]? = some s) => idx_back h
  have hIl := idx_len lx
  have hIa := fun j (h : j < (srt lx).length) => idx_all h
  clear hix HK hown
  generalize srt lx = S at *
  generalize idx lx = I at *
  have HX := Lib.hid hrx; have HSA := Lib.hid hSa; have HIX := Lib.hid hIx; have HIB := Lib.hid hIb; have HIL := Lib.hid hIl; have HIA := Lib.hid hIa
  clear hrx hSa hIx hIb hIa hIl
  go_wp2_with fail
  refine HBD.out.mono ?_; rintro e w2 ⟨v1, v2, rfl, hr1, hr2, hb⟩
  obtain ⟨A1, c1, _, rfl, rfl, hd1, hd2⟩ := hr1.bds
  obtain ⟨A2, c2, n2, rfl, hn2, he1, he2⟩ := hr2.bds
  have hnl : n2 = lx.length := by rw [hn2, HIL.out]
  subst hnl
  clear hn2
  replace hrx := HX.out.step hb
  replace hB := bel_trans hB hb
  have hmk := run_makeV (P := Try.prog) (t := 33) (z := .bool false) rfl Try.underlying33 Try.infBl S.length (by omega) (by unfold maxLen; omega) w2
  have hrow := RowV.made Value.bool false 4 w2 w2.heap.size S.length (Nat.le_refl _) (by unfold maxLen; omega)
  have hb6 := (Below.refl w2.heap.size w2).alloc (Nat.le_refl _) (.cells (madeCells #[.bool false] S.length) 4)
  have HR1 := Lib.hid hr1; have HR2 := Lib.hid hr2; have HRX := Lib.hid hrx
  clear hr1 hr2 hrx HX hb HBD
  generalize w2.alloc (.cells (madeCells #[.bool false] S.length) 4) = w6 at hmk hrow hb6
  go_wp2_with fail
  clear hmk
  go_loopw [26] (fun i wq => ∃ (j : Nat) (U : List Bool), i = .int .i64 j ∧ j ≤ lx.length ∧ RowV Value.bool 4 wq w2.heap.size w2.heap.size S.length U ∧ UOk S.length I j U ∧ Below w2.heap.size w2 wq) (fun i _ => lx.length - (intOf i).toNat)
  case atStart => exact ⟨0, _, rfl, Nat.zero_le _, hrow, UOk.start _ _, hb6⟩
  case round =>
    clear hrow hb6
    obtain ⟨j, U, rfl, hj, hrow, hU, hbel⟩ := hrel
    have HUO := Lib.hid hU
    clear hU
    by_cases hlt : j < lx.length
    · have hx : lx[j]? = some lx[j] := List.getElem?_eq_getElem hlt
      have hi := HIX.out j _ hx
      have hi2 := HIB.out j _ hx
      obtain ⟨ad, rfl, _, hgx⟩ := (HRX.out.below hbel).at hx
      obtain ⟨ad2, rfl, _, hgi0⟩ := (HR2.out.below hbel).at hi
      obtain ⟨ad1, rfl, _, hgw⟩ := (HR1.out.below hbel).at hi2
      have hpl : plc lx[j] S < S.length := (List.getElem?_eq_some_iff.1 hi2).1
      have HI := Lib.hid hi
      clear hx hi hi2
      generalize plc lx[j] S = p at *
      generalize lx[j] = x at hgx hgw
      have hgi : wr.cell? (ad2.add j) = some (.int .i64 (p : Int)) := hgi0
      clear hgi0
      have hUx : U[p]? = some (U[p]'(by rw [HUO.out.1]; exact hpl)) := List.getElem?_eq_getElem _
      have hc := hrow.cell p _ hUx
      have hf := hrow.frozen p
      generalize U[p]'_ = ux at hc hUx
      have HST := Lib.hid (fun k => (row_drewN k hrow).store p true); have HB2 := Lib.hid (fun k => (belowN hbel k).setCell (p := ⟨w2.heap.size, p, none⟩) (Nat.le_refl _) (.bool true)); have HUS := Lib.hid (HUO.out.step HI.out hpl)
      clear hUx
      have hd := text_eq (s := x) (t := x) rfl
      have hp1 : decide ((p : Int) < 0) = false := decide_eq_false (by omega)
      have hp2 : decide ((S.length : Int) ≤ (p : Int)) = false := decide_eq_false (by omega)
      have hp3 : decide (S.length ≤ p) = false := decide_eq_false (by omega)
      have hq1 : (0 : Int) ≤ (p : Int) := by omega
      have hq2 : (p : Int) < (S.length : Int) := by omega
      have hq3 : (0 : Int) ≤ (j : Int) := by omega
      have hq4 : (j : Int) < (lx.length : Int) := by omega
      clear hrow hbel
      go_wp2_with fail
      go_quiet (fail)
      go_wp2_with fail
      go_roundw
      case rel => exact ⟨j + 1, _, by go_num, hlt, HST.out nq, HUS.out, HB2.out nq⟩
      case measure => simp [intOf] <;> omega
    · have hUt : ∀ m, m < S.length → U[m]? = some true := fun m hm => by
        have h1 := HUO.out.2 m hm
        rw [List.take_of_length_le (by rw [HIL.out]; omega), decide_eq_true (HIA.out m hm)] at h1
        exact h1
      have HUT := Lib.hid hUt
      clear hUt
      go_wp2_with fail
      go_loopw [66] (fun i wq => ∃ (q : Nat), i = .int .i64 q ∧ q ≤ S.length ∧ RowV Value.bool 4 wq w2.heap.size w2.heap.size S.length U ∧ Below w2.heap.size w2 wq) (fun i _ => S.length - (intOf i).toNat)
      case atStart => exact ⟨0, rfl, Nat.zero_le _, hrow, hbel⟩
      case round =>
        clear hrow hbel
        obtain ⟨q, rfl, hq, hrow, hbel⟩ := hrel
        have HROW := Lib.hid (fun k => row_drewN k hrow); have HBEL := Lib.hid (fun k => belowN hbel k)
        by_cases hql : q < S.length
        · have hc := hrow.cell q _ (HUT.out q hql)
          have hx : S[q]? = some S[q] := List.getElem?_eq_getElem hql
          obtain ⟨ad1, rfl, _, hgx⟩ := (HR1.out.below hbel).at hx
          have hq3 : (0 : Int) ≤ (q : Int) := by omega
          have hq4 : (q : Int) < (S.length : Int) := by omega
          rcases Nat.eq_zero_or_pos q with h0 | h0
          · have hd0 : decide (0 < (q : Int)) = false := decide_eq_false (by omega)
            have hd1 : decide (0 < q) = false := decide_eq_false (by omega)
            clear hx hrow hbel h0
            generalize S[q] = x at hgx
            go_wp2_with fail
            go_quiet (fail)
            go_wp2_with fail
            go_roundw
            case rel => exact ⟨q + 1, by go_num, hql, HROW.out nq, HBEL.out nq⟩
            case measure => simp [intOf] <;> omega
          · have hd0 : decide (0 < (q : Int)) = true := decide_eq_true (by omega)
            have hd1 : decide (0 < q) = true := decide_eq_true (by omega)
            obtain ⟨r, hr⟩ : ∃ r : Nat, (q : Int) - 1 = r := ⟨q - 1, by omega⟩
            have hrq : r < q := by omega
            have hy : S[r]? = some S[r] := List.getElem?_eq_getElem (by omega)
            obtain ⟨_, e1, _, hgy⟩ := (HR1.out.below hbel).at hy
            cases e1
            have hlt2 := HSA.out.at hrq hy hx
            have hw1 : IntKind.i64.wrap (r : Int) = (r : Int) := IntWalk.i64_in _ ⟨by omega, by omega⟩
            have hw2 : IntKind.i64.wrap ((q : Int) - 1) = (r : Int) := by rw [hr]; exact hw1
            have hr1 : (0 : Int) ≤ (r : Int) := by omega
            have hr2 : (r : Int) < (S.length : Int) := by omega
            clear hx hy hrow hbel h0
            generalize S[q] = x at hgx hlt2
            generalize S[r] = y at hgy hlt2
            have ht1 := less_at hlt2
            have ht2 := less_at (lts_asym hlt2)
            have ht3 := text_ne (s := y) (t := x) (lts_ne hlt2)
            have ht4 := text_ne (s := x) (t := y) (fun e => lts_ne hlt2 e.symm)
            clear hlt2
            go_wp2_with fail
            go_quiet (fail)
            go_wp2_with fail
            go_roundw
            case rel => exact ⟨q + 1, by go_num, hql, HROW.out nq, HBEL.out nq⟩
            case measure => simp [intOf] <;> omega
        · have hbw := hB.trans (hbel.mono hB.size)
          clear HROW HBEL
          go_wp2_with fail
          refine (awake10_any _).mono ?_; rintro e w9 ⟨rfl, hb⟩
          replace hbw := bel_trans hbw hb
          clear hb
          go_wp2
          go_ret
          exact RetB.mk rfl hbw
set_option maxRecDepth 100000 in
set_option maxHeartbeats 4000000 in
theorem dictIndexes_lifted (os : Os) (started : os.Started) (H : Type) (enc : TypeId × Value → H) :
    ReturnsInHanded {} Try.checked os 5 .any (Rows.dictIndexesSpec.pre6 enc Try.prog Try.f5 Rows.dictIndexesRow.domain false) (Rows.dictIndexesSpec.post enc Try.prog Try.f5 false true false false) := by
  refine law_lifted (C := Try.checked) (tb := 4) started Try.own Try.laidOut (by kernel_rfl) Try.func5
    (ChangeSpec.witness6 (enc := enc) (C := Try.checked) false ⟨#[], #[.slice none 0 0], []⟩ 8 (by kernel_rfl) (by kernel_rfl) (by kernel_rfl) (by kernel_rfl))
    rfl rfl Try.underlying4 (by kernel_rfl) (fun ds h => ?_) (fun W base args ds p hval0 hA0 hsz0 hlt => ?_)
  · have h' : ds.length = Try.f5.params.toList.length := h
    rw [Try.params5] at h'
    match ds, h' with
    | [_], _ => rfl
  · have hval : ∀ (j : Nat) t v, Try.f5.params[j]? = some t → args[j]? = some v → Value.okWide Try.prog W .any base t v := hval0
    have hA : DataW.TrodAll enc Try.prog W 0 (fun _ => true) true Try.f5.params.toList args.toList ds p := hA0
    have hsz : (DataW.weightsEach Try.prog Try.f5.params.toList ds).all (· ≤ reachBytes) = true := hsz0
    rw [Try.params5] at hA hval hsz
    clear hA0 hval0 hsz0
    obtain ⟨v0, vs0, d0, ds0, p0, q0, hargs, rfl, rfl, h0, r0⟩ := trodAll_cons hA
    obtain ⟨rfl, rfl, rfl⟩ := trodAll_nil r0
    obtain rfl : args = #[v0] := by cases args; simp_all
    obtain ⟨zm, rm, wm, bm⟩ := open_rdI Try.underlying23 Try.underlying3 (by kernel_rfl) (hval 0 23 v0 rfl rfl) h0 hsz (j := 0) rfl rfl
    change Calls Try.prog 5 #[v0] W (RetB (.bool true) W)
    exact didx_walk v0 zm W rm wm
theorem dictIndexes_holds : Rows.DictIndexesSaid :=
  OpenClaim.holds_of_wide 5 Try.f5 rfl rfl rfl rfl rfl rfl rfl ⟨rfl, rfl, rfl, rfl, rfl⟩ rfl rfl rfl rfl rfl (by kernel_rfl) Try.func5 (by kernel_rfl)
    (of_decide_eq_true (by kernel_rfl)) (by unfold Func.isWrapper; first | (rw [if_pos (by decide +kernel)]; kernel_rfl) | (rw [if_neg (by decide +kernel)]; exact ⟨rfl, rfl⟩))
    (fun os started H enc _ => dictIndexes_lifted os started H enc)
end Go.Proofs.Ytikokmafofbofaa
