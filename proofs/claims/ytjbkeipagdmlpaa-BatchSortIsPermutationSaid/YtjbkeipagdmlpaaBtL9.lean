/- A stable sorting told by places: where the records of the sorted list stood (pure). -/
import Derived.Test.YtjbkeipagdmlpaaBt1
import Derived.Test.YtjbkeipagdmlpaaBtP
import Derived.Test.YtjbkeipagdmlpaaBtO
namespace Go.RS
open Go.ST
section
variable {α : Type}
/-- The t-th element of a class, by its place. -/
theorem class_place (p : α → Bool) : ∀ (z : List α) (t : Nat) (y : α), (z.filter p)[t]? = some y → ∃ k, z[k]? = some y ∧ (z.take k).filter p = (z.filter p).take t
  | [], t, y, h => by simp at h
  | x :: z, t, y, h => by
    by_cases hx : p x = true
    · rw [List.filter_cons, if_pos hx] at h ⊢
      cases t with
      | zero => exact ⟨0, by simpa using h, by simp⟩
      | succ t =>
        obtain ⟨k, h1, h2⟩ := class_place p z t y (by simpa using h)
        exact ⟨k + 1, by simpa using h1, by rw [List.take_succ_cons, List.filter_cons, if_pos hx, h2, List.take_succ_cons]⟩
    · rw [List.filter_cons, if_neg hx] at h ⊢
      obtain ⟨k, h1, h2⟩ := class_place p z t y h
      exact ⟨k + 1, by simpa using h1, by rw [List.take_succ_cons, List.filter_cons, if_neg hx, h2]⟩
end
section
variable {α : Type} [DecidableEq α]
/-- Place k of z is used, where S is what has come out so far. -/
def usedAt (z S : List α) (k : Nat) : Bool := match z[k]? with
  | some x => decide ((z.take k).count x < S.count x)
  | none => false
theorem usedAt_is {z S : List α} {k : Nat} {x : α} (h : z[k]? = some x) : usedAt z S k = decide ((z.take k).count x < S.count x) := by unfold usedAt; rw [h]
theorem count_take_succ {z : List α} {k : Nat} {x y : α} (h : z[k]? = some x) : (z.take (k + 1)).count y = (z.take k).count y + if x = y then 1 else 0 := by
  rw [List.take_add_one, h]
  simp only [Option.toList_some, List.count_append, List.count_cons, List.count_nil, beq_iff_eq, Nat.zero_add]
theorem count_mono (z : List α) (y : α) : ∀ {i j : Nat}, i ≤ j → (z.take i).count y ≤ (z.take j).count y := by
  intro i j h
  exact ((List.take_sublist_take_left h).count_le y)
/-- There is a place where y stands for the time c + 1. -/
theorem place_of (y : α) : ∀ (z : List α) (c : Nat), c < z.count y → ∃ k : Nat, z[k]? = some y ∧ (z.take k).count y = c
  | [], c, h => by simp at h
  | x :: z, c, h => by
    by_cases hx : x = y
    · subst hx
      cases c with
      | zero => exact ⟨0, rfl, by simp⟩
      | succ c =>
        obtain ⟨k, h1, h2⟩ := place_of x z c (by rw [List.count_cons_self] at h; omega)
        exact ⟨k + 1, by simpa using h1, by rw [List.take_succ_cons, List.count_cons_self, h2]⟩
    · obtain ⟨k, h1, h2⟩ := place_of y z c (by rwa [List.count_cons_of_ne (by exact hx)] at h)
      exact ⟨k + 1, by simpa using h1, by rw [List.take_succ_cons, List.count_cons_of_ne (by exact hx)]; exact h2⟩
theorem place_uniq {z : List α} {y : α} {k k' : Nat} (h1 : z[k]? = some y) (h2 : z[k']? = some y) (h : (z.take k).count y = (z.take k').count y) : k = k' := by
  rcases Nat.lt_trichotomy k k' with hl | hl | hl
  · have h3 := count_take_succ (y := y) h1
    rw [if_pos rfl] at h3
    have h4 := count_mono z y (show k + 1 ≤ k' by omega)
    omega
  · exact hl
  · have h3 := count_take_succ (y := y) h2
    rw [if_pos rfl] at h3
    have h4 := count_mono z y (show k' + 1 ≤ k by omega)
    omega
/-- The first place that is not used and holds y. -/
theorem first_free {z S : List α} {y : α} {k : Nat} (hk : z[k]? = some y) (hc : (z.take k).count y = S.count y) : usedAt z S k = false ∧ ∀ j, j < k → usedAt z S j = true ∨ z[j]? ≠ some y := by
  refine ⟨by rw [usedAt_is hk, hc]; exact decide_eq_false (by omega), fun j hj => ?_⟩
  by_cases h : z[j]? = some y
  · left
    rw [usedAt_is h]
    have h3 := count_take_succ (y := y) h
    rw [if_pos rfl] at h3
    have h4 := count_mono z y (show j + 1 ≤ k by omega)
    exact decide_eq_true (by omega)
  · exact .inr h
/-- One place more is used. -/
theorem used_step {z S : List α} {y : α} {k : Nat} (hk : z[k]? = some y) (hc : (z.take k).count y = S.count y) (j : Nat) : usedAt z (S ++ [y]) j = if j = k then true else usedAt z S j := by
  cases hz : z[j]? with
  | none =>
    have : j ≠ k := fun e => by rw [e, hk] at hz; cases hz
    rw [if_neg this]; unfold usedAt; rw [hz]
  | some x =>
    rw [usedAt_is hz, usedAt_is hz, List.count_append, List.count_cons, List.count_nil]
    by_cases hxy : x = y
    · subst hxy
      rw [beq_self_eq_true, if_pos rfl]
      by_cases hjk : j = k
      · subst hjk; rw [if_pos rfl]; exact decide_eq_true (by omega)
      · rw [if_neg hjk]
        have hne : (z.take j).count x ≠ S.count x := fun e => hjk (place_uniq hz hk (by rw [e, hc]))
        by_cases hl : (z.take j).count x < S.count x
        · rw [decide_eq_true hl, decide_eq_true (by omega)]
        · rw [decide_eq_false hl, decide_eq_false (by omega)]
    · have hjk : j ≠ k := fun e => hxy (by rw [e, hk] at hz; exact (Option.some.inj hz).symm)
      rw [if_neg hjk, beq_eq_false_iff_ne.2 (fun e => hxy e.symm)]
      simp
theorem count_filter_of {p : α → Bool} {y : α} (hp : p y = true) (l : List α) : (l.filter p).count y = l.count y := List.count_filter hp
/-- The counts agree: a sorted list has each element as often. -/
theorem isS_count {le : α → α → Bool} (ho : Ord le) {l out : List α} (h : IsS le l out) (y : α) : out.count y = l.count y := by
  have e := eqv_self ho y
  rw [← count_filter_of (p := eqv le y) e out, ← count_filter_of (p := eqv le y) e l, h.same y]
/-- Equal ones stand in the order of their places. -/
theorem stable_places {le : α → α → Bool} (ho : Ord le) {z S : List α} (h : IsS le z S) {i k last : Nat} {a b : α} (ha : S[i]? = some a) (hb : S[i + 1]? = some b) (hab : eqv le b a = true)
    (hl : z[last]? = some a) (hlc : (z.take last).count a = (S.take i).count a) (hk : z[k]? = some b) (hkc : (z.take k).count b = (S.take (i + 1)).count b) : last < k := by
  have hbb := eqv_self ho b
  generalize hp : eqv le b = p at *
  have hF : S.filter p = z.filter p := by rw [← hp]; exact h.same b
  have hi : i < S.length := (List.getElem?_eq_some_iff.1 ha).1
  have hi1 : i + 1 < S.length := (List.getElem?_eq_some_iff.1 hb).1
  have hSi : S = S.take i ++ a :: b :: S.drop (i + 2) := by
    have e1 : S[i] = a := by rw [List.getElem?_eq_getElem hi] at ha; exact Option.some.inj ha
    have e2 : S[i + 1] = b := by rw [List.getElem?_eq_getElem hi1] at hb; exact Option.some.inj hb
    have h3 : S.drop i = a :: b :: S.drop (i + 2) := by rw [List.drop_eq_getElem_cons hi, List.drop_eq_getElem_cons hi1, e1, e2]
    rw [← h3, List.take_append_drop]
  have hfa : S.filter p = (S.take i).filter p ++ a :: b :: (S.drop (i + 2)).filter p := by
    conv => lhs; rw [hSi]
    rw [List.filter_append, List.filter_cons, if_pos hab, List.filter_cons, if_pos hbb]
  obtain ⟨m, hm⟩ : ∃ m, ((S.take i).filter p).length = m := ⟨_, rfl⟩
  have h1 : (z.filter p)[m]? = some a := by rw [← hF, hfa, ← hm, List.getElem?_append_right (Nat.le_refl _), Nat.sub_self]; rfl
  have h2 : (z.filter p)[m + 1]? = some b := by rw [← hF, hfa, ← hm, List.getElem?_append_right (by omega), Nat.add_sub_cancel_left]; rfl
  obtain ⟨k1, e1, e2⟩ := class_place p z m a h1
  obtain ⟨k2, e3, e4⟩ := class_place p z (m + 1) b h2
  have t1 : (z.filter p).take m = (S.take i).filter p := by rw [← hF, hfa, ← hm, List.take_left']; rfl
  have hti : S.take (i + 1) = S.take i ++ [a] := by rw [List.take_add_one, ha]; rfl
  have t2 : (z.filter p).take (m + 1) = (S.take (i + 1)).filter p := by
    rw [hti, List.filter_append, List.filter_cons, if_pos hab, List.filter_nil, ← t1, List.take_add_one, h1]; rfl
  have c1 : (z.take k1).count a = (S.take i).count a := by rw [← count_filter_of hab, e2, t1, count_filter_of hab]
  have c2 : (z.take k2).count b = (S.take (i + 1)).count b := by rw [← count_filter_of hbb, e4, t2, count_filter_of hbb]
  have q1 : last = k1 := place_uniq hl e1 (by rw [hlc, c1])
  have q2 : k = k2 := place_uniq hk e3 (by rw [hkc, c2])
  subst q1 q2
  by_cases hlt : last < k
  · exact hlt
  · exfalso
    have hle : k ≤ last := by omega
    have hsub := ((List.take_sublist_take_left hle : (z.take k).Sublist (z.take last)).filter p).length_le
    rw [e2, e4, t1, t2, hti, List.filter_append, List.length_append, List.filter_cons, if_pos hab] at hsub
    simp only [List.length_cons] at hsub
    omega
end
noncomputable instance decRc : DecidableEq Rc := fun _ _ => Classical.propDecidable _
end Go.RS

namespace Go.Proofs.Ytjbkeipagdmlpaa
open Go.RowKit Go.VB Go.VS Go.SC Go.CK Go.ST Go.MK Go.RS Go.ChangeShapes Go.WideShapes Go.ChangeAt
set_option linter.constructorNameAsVariable false
set_option maxRecDepth 100000 in
set_option maxHeartbeats 4000000 in
theorem batchSortIsPermutation_lifted (os : Os) (started : os.Started) (H : Type) (enc : TypeId × Value → H) :
    ReturnsInHanded {} Try.checked os 7 .any (Rows.batchSortIsPermutationSpec.pre6 enc Try.prog Try.f7 Rows.batchSortIsPermutationRow.domain false) (Rows.batchSortIsPermutationSpec.post enc Try.prog Try.f7 false true false false) := by
  refine law_lifted (C := Try.checked) (tb := 4) started Try.own Try.laidOut (by kernel_rfl) Try.func7
    (ChangeSpec.witness6 (enc := enc) (C := Try.checked) false ⟨#[], #[.slice none 0 0, .slice none 0 0], []⟩ 8 (by kernel_rfl) (by kernel_rfl) (by kernel_rfl) (by kernel_rfl))
    rfl rfl Try.underlying4 (by kernel_rfl) (fun ds h => ?_) (fun W base args ds p hval0 hA0 hsz0 hlt => ?_)
  · have h' : ds.length = Try.f7.params.toList.length := h
    rw [Try.params7] at h'
    match ds, h' with
    | [_, _], _ => rfl
  · have hval : ∀ (j : Nat) t v, Try.f7.params[j]? = some t → args[j]? = some v → Value.okWide Try.prog W .any base t v := hval0
    have hA : DataW.TrodAll enc Try.prog W 0 (fun _ => true) true Try.f7.params.toList args.toList ds p := hA0
    have hsz : (DataW.weightsEach Try.prog Try.f7.params.toList ds).all (· ≤ reachBytes) = true := hsz0
    rw [Try.params7] at hA hval hsz
    clear hA0 hval0 hsz0
    obtain ⟨v0, vs0, d0, ds0, p0, q0, hargs, rfl, rfl, h0, r0⟩ := trodAll_cons hA
    obtain ⟨v1, vs1, d1, ds1, p1, q1, rfl, rfl, rfl, h1, r1⟩ := trodAll_cons r0
    obtain ⟨rfl, rfl, rfl⟩ := trodAll_nil r1
    obtain rfl : args = #[v0, v1] := by cases args; simp_all
    obtain ⟨zx, rx, wx, bx⟩ := open_rdI Try.underlying30 Try.underlying3 (by kernel_rfl) (hval 0 30 v0 rfl rfl) h0 hsz (j := 0) rfl rfl
    obtain ⟨zl, rl, wl, bl⟩ := open_rdI Try.underlying30 Try.underlying3 (by kernel_rfl) (hval 1 30 v1 rfl rfl) h1 hsz (j := 1) rfl rfl
    change Calls Try.prog 7 #[v0, v1] W (RetB (.bool true) W)
    have hK := Lib.hid (kSch_any W v0 zx rx wx)
    go_enter Try.func7, Try.ntmps7
    go_wp2_with fail
    (with_reducible refine hK.out.mono ?_); rintro e w1 ⟨hb1, yv, ycs, yk, rfl, hoy, hko⟩
    have hyr := OwnC.read hoy
    obtain ⟨yA, yc, rfl, -, -, -⟩ := id hyr
    have hVy := Var2.new w1 (.slice yA ycs.length yc) (.int .i64 yk) 28
    have hba := (Below.refl w1.heap.size w1).alloc (Nat.le_refl _) (.cells #[(.slice yA ycs.length yc), .int .i64 yk] 28)
    obtain ⟨X1, hX1⟩ : ∃ X, w1.alloc (.cells #[(.slice yA ycs.length yc), .int .i64 yk] 28) = X := ⟨_, rfl⟩
    rw [hX1] at hVy hba
    have HX1 := Lib.hid hX1
    have hB1 := bel_trans hb1 hba
    have hyr1 := hyr.step hba
    have hL0 := (kloose_any X1 ycs (.slice yA ycs.length yc) yk v1 zl 12 (by decide) hyr1 (kok_12 hko) (kok_ty hko) (rl.step hB1) wl)
    rw [show ((12 : Nat) : Int) = 12 from rfl] at hL0
    have hL := Lib.hid hL0
    clear hX1 hK hb1 hoy hba hyr hL0
    go_wp2_with fail
    rw [HX1.out]
    generalize Value.slice yA ycs.length yc = yv at *
    (with_reducible refine hL.out.mono ?_); rintro e w2 ⟨u, lz, rfl, hz, hzl, hok, hb2⟩
    have hB2 := bel_trans hB1 hb2
    have hy2 := hyr1.step hb2
    have hV2 := hVy.step hb2
    clear hL hyr1 hVy
    obtain ⟨hk0, hk1⟩ := hko.2.2.2
    obtain ⟨k, rfl⟩ : ∃ k : Nat, yk = k := ⟨yk.toNat, by omega⟩
    have hkl : k < ycs.length := by omega
    have hval := kok_val hko hok
    have hSo := bsort_any ycs yv (k : Int) u lz w2 hy2 hz.read (by omega)
    rw [sortR_val hval, show keyT ycs (k : Int) = (ycs.getD k col0).ty from rfl, Int.toNat_natCast] at hSo
    obtain ⟨TY, hTY⟩ : ∃ TY, (ycs.getD k col0).ty = TY := ⟨_, rfl⟩
    rw [hTY] at hSo
    have HTY := Lib.hid hTY
    have hISS := srtL_spec (recLe_ord TY k) lz
    have hpw := srtR_pw TY k lz
    have hSl := srtR_len TY k lz
    have hSm : ∀ r ∈ srtR TY k lz, r.row.length = ycs.length := fun r hr => (okRec_sound (hok r (srtR_mem hr))).2.2
    change IsS (recLe TY k) lz (srtR TY k lz) at hISS
    generalize srtR TY k lz = S at *
    obtain ⟨zA, n, zc, rfl⟩ := ownRs_sl hz
    have hzr := hz.read
    have hzn := hzr.len.1
    have HISS := Lib.hid hISS; have HPW := Lib.hid hpw; have HSM := Lib.hid hSm; have HSO := Lib.hid hSo; have HKL := Lib.hid hkl
    have hn12 : n ≤ 12 := by omega
    have HZN := Lib.hid hzn; have HSL := Lib.hid (show S.length = n by omega)
    have HY2 := Lib.hid hy2; have HV2 := Lib.hid hV2; have HZR := Lib.hid hzr; have HB2 := Lib.hid hB2
    obtain ⟨y0, y1, -, -⟩ := id hV2
    clear hISS hpw hSm hSo hkl hzn hy2 hV2 hzr hB2 hz hok hzl hko hk0 hk1 hval hTY hSl hB1 hb2
    go_wp2_with fail
    (with_reducible refine HSO.out.mono ?_); rintro e w3 ⟨qv, qs, rfl, ho, hd, hb3⟩
    obtain ⟨qA, qn, qc, rfl⟩ := ownK_sl ho
    have hor := Go.RS.OwnK.rdR ho hd
    have hqn : qn = n := by have := hor.len.1; have := HSL.out; omega
    subst hqn
    have HB3 := Lib.hid (bel_trans HB2.out hb3)
    have hV3 := HV2.out.step hb3
    have hy3 := HY2.out.step hb3
    have hzr3 := HZR.out.step hb3
    have HU := Lib.hid (show ∀ w, Below w3.heap.size w3 w → Var2 w w1.heap.size yv (.int .i64 (k : Int)) ∧ RdC w w.heap.size yv ycs ∧ RdR w w.heap.size (.slice qA qn qc) S ∧ RdR w w.heap.size (.slice zA qn zc) lz from fun w h => ⟨hV3.step h, hy3.step h, hor.step h, hzr3.step h⟩)
    have HOR := Lib.hid hor; have HZ3 := Lib.hid hzr3
    have hmk := run_makeV (P := Try.prog) (z := .bool false) rfl Try.underlying53 (show (Try.prog.info? 4).map (fun i => (i.zero, i.size, i.bytes)) = some (some (.bool false), 1, 1) from by kernel_rfl) qn (by omega) (by unfold maxLen; omega) w3
    have hrw0 := RowV.made Value.bool false 4 w3 w3.heap.size qn (Nat.le_refl _) (by unfold maxLen; omega)
    have hb40 := (Below.refl w3.heap.size w3).alloc (Nat.le_refl _) (.cells (madeCells #[.bool false] qn) 4)
    obtain ⟨W4, hW4⟩ : ∃ W4, w3.alloc (.cells (madeCells #[.bool false] qn) 4) = W4 := ⟨_, rfl⟩
    rw [hW4] at hmk hb40
    have hrw1 : RowV Value.bool 4 W4 w3.heap.size w3.heap.size qn (List.replicate qn false) := by rw [← hW4]; exact hrw0
    clear hrw0 hV3 hy3 hzr3 hor ho hd hb3 HSO hW4 y0 y1
    go_wp2
    clear hmk
    go_loopw [4, 9, 10, 11, 12, 13, 32] (fun r lv _ _ _ _ iv wr => ∃ (i : Nat) (ub : List Bool) (last : Int), r = .bool false ∧ iv = .int .i64 i ∧ lv = .int .i64 last ∧ i ≤ qn ∧ RowV Value.bool 4 wr w3.heap.size w3.heap.size qn ub ∧ Hid (ub.length = qn) ∧ Hid (∀ j, j < qn → ub[j]? = some (usedAt lz (S.take i) j)) ∧ Hid (i = 0 ∨ ∃ (pl : Nat) (a' : Rc), last = pl ∧ S[i - 1]? = some a' ∧ lz[pl]? = some a' ∧ (lz.take pl).count a' = (S.take (i - 1)).count a') ∧ Below w3.heap.size w3 wr) (fun _ _ _ _ _ _ iv _ => qn - (intOf iv).toNat)
    case atStart => exact ⟨0, _, _, rfl, rfl, rfl, Nat.zero_le _, hrw1, Lib.hid List.length_replicate, Lib.hid (fun j hj => by
      rw [List.getElem?_replicate, if_pos hj]
      obtain ⟨x, hx⟩ : ∃ x, lz[j]? = some x := ⟨lz[j]'(by have := HZN.out; omega), List.getElem?_eq_getElem _⟩
      rw [usedAt_is hx, List.take_zero]; simp), Lib.hid (.inl rfl), hb40⟩
    case round =>
      clear hrw1 hb40
      obtain ⟨i, ub, last, rfl, rfl, rfl, hi, hrw, HLU, HUS, HPR, hbel⟩ := hrel
      have hwl : w3.heap.size ≤ wr.heap.size := hbel.size
      have HGW := Lib.hid (RowV.lt hrw).2
      by_cases hlt : i < qn
      case neg =>
        have hd0 : decide ((i : Int) < (qn : Int)) = false := decide_eq_false (by omega)
        have hd0' : decide (i < qn) = false := decide_eq_false hlt
        have HA := Lib.hid (awake15_any wr)
        have HBE := Lib.hid (bel_trans HB3.out hbel)
        clear hrw hbel
        go_wp2_with fail
        (with_reducible refine HA.out.mono ?_); rintro e wA ⟨rfl, hbx⟩
        go_wp2
        go_ret
        exact RetB.mk rfl (bel_trans HBE.out hbx)
      obtain ⟨b, hb⟩ : ∃ b, S[i]? = some b := ⟨S[i]'(by have := HSL.out; omega), List.getElem?_eq_getElem _⟩
      obtain ⟨ad, eA, en, ec, rfl, hab, q0, q1, -, qr⟩ := HOR.out.at hb
      have hq0 : wr.cell? (ad.add (i * 2)) = some (.int .i64 b.seq) := by rw [hbel.cell (by rw [Go.VB.block_add]; exact hab)]; exact q0
      have hq1 : wr.cell? ⟨(ad.add (i * 2)).block, (ad.add (i * 2)).off + 1, none⟩ = some (.slice eA en ec) := by rw [hbel.cell (p := ⟨(ad.add (i * 2)).block, _, none⟩) (by show (ad.add (i * 2)).block < _; rw [Go.VB.block_add]; exact hab)]; exact q1
      obtain ⟨KK, hkz, hkc⟩ := place_of b lz ((S.take i).count b) (by
        have h1 := isS_count (recLe_ord TY k) HISS.out b
        rw [← h1]
        have h2 := count_take_succ (y := b) hb
        rw [if_pos rfl] at h2
        have h3 := (List.take_sublist (i + 1) S).count_le b
        omega)
      have hKn : KK < qn := by have := (List.getElem?_eq_some_iff.1 hkz).1; have := HZN.out; omega
      obtain ⟨hf1, hf2⟩ := first_free hkz hkc
      have HSI := Lib.hid hb; have HKZ := Lib.hid hkz; have HKC := Lib.hid hkc; have HF1 := Lib.hid hf1; have HF2 := Lib.hid hf2
      have HQR := Lib.hid qr
      have hbv := (Below.refl wr.heap.size wr).alloc (Nat.le_refl _) (.cells #[.int .i64 b.seq, .slice eA en ec] 41)
      have hVv := Var2.new wr (.int .i64 b.seq) (.slice eA en ec) 41
      have hrwv := hrw.alloc (.cells #[.int .i64 b.seq, .slice eA en ec] 41)
      obtain ⟨WV, hWV⟩ : ∃ WV, wr.alloc (.cells #[.int .i64 b.seq, .slice eA en ec] 41) = WV := ⟨_, rfl⟩
      rw [hWV] at hbv hVv hrwv
      have HWV := Lib.hid hWV
      have HX := Lib.hid (show ∀ w, Below WV.heap.size WV w → Var2 w wr.heap.size (.int .i64 b.seq) (.slice eA en ec) ∧ RowV Value.bool 4 w w3.heap.size w3.heap.size qn ub ∧ Below w3.heap.size w3 w from fun w h => ⟨hVv.step h, RowV.below hrwv h, hbel.trans ((bel_trans hbv h).mono hwl)⟩)
      have hd0 : decide ((i : Int) < (qn : Int)) = true := decide_eq_true (by omega)
      have hd0' : decide (i < qn) = true := decide_eq_true hlt
      obtain ⟨bq, hbq⟩ : ∃ bq, b.seq = bq := ⟨_, rfl⟩
      rw [hbq] at hq0 HX HWV
      have HBQ := Lib.hid hbq
      clear hkz hkc hf1 hf2 qr hbv hVv hrwv hWV q0 q1 hrw hab hbq hb hbel
      go_wp2_with fail
      rw [HWV.out]
      clear hq0 hq1
      obtain ⟨WO, rfl⟩ : ∃ WO, WO = wr := ⟨_, rfl⟩
      go_loopw [12] (fun kv wi => ∃ m : Nat, kv = .int .i64 m ∧ m ≤ KK ∧ Below WV.heap.size WV wi) (fun kv _ => KK - (intOf kv).toNat)
      case atStart => exact ⟨0, rfl, Nat.zero_le _, Below.refl _ _⟩
      case round =>
        obtain ⟨m, rfl, hm, hbi⟩ := hrel
        have hmn : m < qn := by omega
        obtain ⟨z, hz⟩ : ∃ z, lz[m]? = some z := ⟨lz[m]'(by have := HZN.out; omega), List.getElem?_eq_getElem _⟩
        obtain ⟨ad2, gA, gn, gc, rfl, hab2, g0, g1, -, gr⟩ := HZ3.out.at hz
        obtain ⟨us1, hus1⟩ : ∃ v, usedAt lz (S.take i) m = v := ⟨_, rfl⟩
        have husm := HUS.out m hmn
        rw [hus1] at husm
        obtain ⟨zq, hzq⟩ : ∃ zq, z.seq = zq := ⟨_, rfl⟩
        rw [hzq] at g0
        have HCF := Lib.hid (show ∀ w, Below wr.heap.size wr w → w.cell? (ad2.add (m * 2)) = some (.int .i64 zq) ∧ w.cell? ⟨(ad2.add (m * 2)).block, (ad2.add (m * 2)).off + 1, none⟩ = some (.slice gA gn gc) ∧ w.cell? ⟨w3.heap.size, m, none⟩ = some (.bool us1) ∧ Var2 w WO.heap.size (.int .i64 bq) (.slice eA en ec) from fun w h => by
          obtain ⟨h1, h2, h3⟩ := HX.out w (bel_trans hbi h)
          refine ⟨?_, ?_, RowV.cell h2 m us1 husm, h1⟩
          · rw [h3.cell (by rw [Go.VB.block_add]; exact hab2)]; exact g0
          · rw [h3.cell (p := ⟨(ad2.add (m * 2)).block, _, none⟩) (by show (ad2.add (m * 2)).block < _; rw [Go.VB.block_add]; exact hab2)]; exact g1)
        have hSR := fun w (h : Below wr.heap.size wr w) => same_rec z b (.slice gA gn gc) (.slice eA en ec) w ((gr.below (HX.out w (bel_trans hbi h)).2.2).more (HX.out w (bel_trans hbi h)).2.2.size) ((HQR.out.below (HX.out w (bel_trans hbi h)).2.2).more (HX.out w (bel_trans hbi h)).2.2.size)
        simp only [hzq, HBQ.out] at hSR
        have HSR := fun w h => Lib.hid (hSR w h)
        have hmd : decide ((m : Int) < (qn : Int)) = true := decide_eq_true (by omega)
        have hmd' : decide (m < qn) = true := decide_eq_true hmn
        have hmi : (m : Int) < (qn : Int) := by omega
        have HUS1 := Lib.hid hus1; have HZE := Lib.hid hz
        clear hSR hus1 husm hzq g0 g1 gr hab2 hz
        by_cases hmk : m < KK
        · have hcase : us1 = true ∨ (us1 = false ∧ ¬ z = b) := by
            cases us1 with
            | true => exact .inl rfl
            | false =>
              refine .inr ⟨rfl, fun e => ?_⟩
              rcases HF2.out m hmk with h | h
              · rw [HUS1.out] at h; cases h
              · exact h (by rw [HZE.out, e])
          rcases hcase with rfl | ⟨rfl, hne⟩
          · go_wp2_with fail
            refine Go.Confl.wp_region_confl (by simp only [List.map_cons, List.map_nil]; rfl) (by kernel_rfl) (by kernel_rfl) ?_
            iterate 19
              first
              | (refine Go.Confl.chain_skip (Go.Confl.unwanted_is rfl rfl) ?_)
              | (first | apply Go.Confl.chain_is _ (Go.Confl.wanted_none rfl) | apply Go.Confl.chain_is _ (Go.Confl.wanted_is rfl rfl)
                 · intro b w hr hb K hK
                   simp [Go.Confl.readFacts, Go.Confl.tmpsOf, Go.Confl.writerOf, Go.Confl.Is, Op.operands, Call.operands, List.findIdx?, List.findIdx?.go] at hr
                   obtain ⟨g0, g1, c0, ⟨v0, v1, -, -⟩⟩ := HCF.out _ hb
                   go_wp2_with (first
                     | fail)
                   try (simp only [hr]; go_wp2)
                   exact hK _ _ rfl (by first | exact Below.refl _ _ | assumption))
              simp only [List.nil_append, List.cons_append]
            intro us w hp hb
            simp [Go.Confl.allPosts, Go.Confl.Is] at hp
            simp only [Go.Confl.putsFrom, hp, Act.put, List.setIfInBounds_toArray, List.set_cons_zero, List.set_cons_succ]
            have HBN := Lib.hid (bel_trans hbi hb)
            clear hb
            go_wp2_with fail
            go_roundw
            all_goals first
              | exact ⟨m + 1, by go_num, hmk, HBN.out⟩
              | (simp [intOf]; omega)
          · go_wp2_with fail
            refine Go.Confl.wp_region_confl (by simp only [List.map_cons, List.map_nil]; rfl) (by kernel_rfl) (by kernel_rfl) ?_
            iterate 19
              first
              | (refine Go.Confl.chain_skip (Go.Confl.unwanted_is rfl rfl) ?_)
              | (first | apply Go.Confl.chain_is _ (Go.Confl.wanted_none rfl) | apply Go.Confl.chain_is _ (Go.Confl.wanted_is rfl rfl)
                 · intro b w hr hb K hK
                   simp [Go.Confl.readFacts, Go.Confl.tmpsOf, Go.Confl.writerOf, Go.Confl.Is, Op.operands, Call.operands, List.findIdx?, List.findIdx?.go] at hr
                   obtain ⟨g0, g1, c0, ⟨v0, v1, -, -⟩⟩ := HCF.out _ hb
                   go_wp2_with (first
                     | (go_at_call 30; (with_reducible refine (HSR _ hb).out.mono ?_); rintro e w' ⟨bb, rfl, hbb, hb'⟩; obtain rfl : bb = false := (by cases bb with | false => rfl | true => exact absurd (hbb.1 rfl) hne)))
                   try (simp only [hr]; go_wp2)
                   exact hK _ _ rfl (by first | exact Below.refl _ _ | assumption))
              simp only [List.nil_append, List.cons_append]
            intro us w hp hb
            simp [Go.Confl.allPosts, Go.Confl.Is] at hp
            simp only [Go.Confl.putsFrom, hp, Act.put, List.setIfInBounds_toArray, List.set_cons_zero, List.set_cons_succ]
            have HBN := Lib.hid (bel_trans hbi hb)
            clear hb
            go_wp2_with fail
            go_roundw
            all_goals first
              | exact ⟨m + 1, by go_num, hmk, HBN.out⟩
              | (simp [intOf]; omega)
        obtain rfl : KK = m := by omega
        have hu : us1 = false := by rw [← HUS1.out]; exact HF1.out
        subst hu
        have hze : z = b := by have := HZE.out; rw [HKZ.out] at this; exact (Option.some.inj this).symm
        go_wp2_with fail
        refine Go.Confl.wp_region_confl (by simp only [List.map_cons, List.map_nil]; rfl) (by kernel_rfl) (by kernel_rfl) ?_
        iterate 19
          first
          | (refine Go.Confl.chain_skip (Go.Confl.unwanted_is rfl rfl) ?_)
          | (first | apply Go.Confl.chain_is _ (Go.Confl.wanted_none rfl) | apply Go.Confl.chain_is _ (Go.Confl.wanted_is rfl rfl)
             · intro b w hr hb K hK
               simp [Go.Confl.readFacts, Go.Confl.tmpsOf, Go.Confl.writerOf, Go.Confl.Is, Op.operands, Call.operands, List.findIdx?, List.findIdx?.go] at hr
               obtain ⟨g0, g1, c0, ⟨v0, v1, -, -⟩⟩ := HCF.out _ hb
               go_wp2_with (first
                 | (go_at_call 30; (with_reducible refine (HSR _ hb).out.mono ?_); rintro e w' ⟨bb, rfl, hbb, hb'⟩; obtain rfl : bb = true := hbb.2 hze))
               try (simp only [hr]; go_wp2)
               exact hK _ _ rfl (by first | exact Below.refl _ _ | assumption))
          simp only [List.nil_append, List.cons_append]
        intro us w hp hb
        simp [Go.Confl.allPosts, Go.Confl.Is] at hp
        simp only [Go.Confl.putsFrom, hp, Act.put, List.setIfInBounds_toArray, List.set_cons_zero, List.set_cons_succ]
        have hbW := bel_trans hbi hb
        obtain ⟨h1, h2, h3⟩ := HX.out w hbW
        have k5 := RowV.cell h2 KK _ (HUS.out KK hmn)
        have f5 := RowV.frozen h2 KK
        have hst := RowV.store h2 KK true
        have HRW2 := Lib.hid (show RowV Value.bool 4 (w.setCell ⟨w3.heap.size, KK, none⟩ (.bool true)) w3.heap.size w3.heap.size qn (ub.set KK true) from hst)
        have HBE := Lib.hid (h3.setCell (p := ⟨w3.heap.size, KK, none⟩) (Nat.le_refl _) (.bool true))
        have HVR := Lib.hid (show Var2 (w.setCell ⟨w3.heap.size, KK, none⟩ (.bool true)) WO.heap.size (.int .i64 bq) (.slice eA en ec) from var2_oth h1 (by have := HGW.out; omega))
        have HUS2 := Lib.hid (show ∀ j, j < qn → (ub.set KK true)[j]? = some (usedAt lz (S.take (i + 1)) j) from fun j hj => by
          rw [take_snoc HSI.out, used_step HKZ.out HKC.out j]
          by_cases hjk : KK = j
          · subst hjk; rw [if_pos rfl, List.getElem?_set_self (by rw [HLU.out]; exact hj)]
          · rw [List.getElem?_set_ne hjk, if_neg (fun e => hjk e.symm)]; exact HUS.out j hj)
        have hkq : ((KK : Int) == (qn : Int)) = false := Go.VL.ieq_f (by omega)
        by_cases hi0 : i = 0
        · have hgi : decide ((0 : Int) < (i : Int)) = false := decide_eq_false (by omega)
          have hgi' : decide (0 < i) = false := decide_eq_false (by omega)
          have HRW3 := HRW2
          have HBE2 := HBE
          have HRELN := Lib.hid (show (i + 1) = 0 ∨ ∃ (pl : Nat) (a' : Rc), (KK : Int) = pl ∧ S[i + 1 - 1]? = some a' ∧ lz[pl]? = some a' ∧ (lz.take pl).count a' = (S.take (i + 1 - 1)).count a' from .inr ⟨KK, b, rfl, HSI.out, HKZ.out, HKC.out⟩)
          go_wp2_with fail
          go_roundw
          all_goals first
            | exact ⟨i + 1, ub.set KK true, _, rfl, by go_num, rfl, hlt, HRW3.out, Lib.hid (by rw [List.length_set]; exact HLU.out), HUS2, HRELN, HBE2.out⟩
            | (simp [intOf]; omega)
        have hgi : decide ((0 : Int) < (i : Int)) = true := decide_eq_true (by omega)
        have hgi' : decide (0 < i) = true := decide_eq_true (by omega)
        obtain ⟨pl, a', rfl, hSa, hla, hlc⟩ := HPR.out.resolve_left hi0
        obtain ⟨p, hp⟩ : ∃ p, i = p + 1 := ⟨i - 1, by omega⟩
        rw [show i - 1 = p by omega] at hSa hlc
        obtain ⟨X2, hX2⟩ : ∃ X, w.setCell ⟨w3.heap.size, KK, none⟩ (.bool true) = X := ⟨_, rfl⟩
        rw [hX2] at HRW2 HBE HVR
        have HX2 := Lib.hid hX2
        go_wp2_with fail
        try rw [HX2.out]
        clear HX2 hX2 k5 f5 hst h1 h2 h3 hbW hb hbi hmi hmd hmd' hkq HSR HCF
        obtain ⟨ad3, fA, fn, fc, he, hab3, f0, f1, -, fr⟩ := HOR.out.at hSa
        cases he
        have hC0 : cmpRec TY k a' b ≤ 0 := by
          have h9 := List.pairwise_iff_getElem.1 HPW.out p i (List.getElem?_eq_some_iff.1 hSa).1 (List.getElem?_eq_some_iff.1 HSI.out).1 (by omega)
          rw [(List.getElem?_eq_some_iff.1 hSa).2, (List.getElem?_eq_some_iff.1 HSI.out).2] at h9
          exact of_decide_eq_true h9
        have hCN : cmpRec TY k a' b = 0 → pl < KK := fun h => by
          have h8 := cmpR_neg TY (keyV k a') a'.seq (keyV k b) b.seq
          have h7 : eqv (recLe TY k) b a' = true := by
            unfold eqv recLe
            rw [decide_eq_true hC0, Bool.and_true]
            exact decide_eq_true (by unfold cmpRec at *; omega)
          refine stable_places (recLe_ord TY k) HISS.out (i := p) hSa (by rw [← hp]; exact HSI.out) h7 hla hlc HKZ.out ?_
          rw [← hp]; exact HKC.out
        have hla' : a'.row.length = ycs.length := HSM.out a' (List.mem_of_getElem? hSa)
        have hlb' : b.row.length = ycs.length := HSM.out b (List.mem_of_getElem? HSI.out)
        have hKT := fun w (h : Below X2.heap.size X2 w) => keyt_any ycs yv k w (HU.out w (bel_trans HBE.out h)).2.1 HKL.out
        simp only [HTY.out] at hKT
        have hR3 := fun w (h : Below X2.heap.size X2 w) => rof_at ycs yv k a' (.slice fA fn fc) w (HU.out w (bel_trans HBE.out h)).2.1 (fr.step (bel_trans HBE.out h)) (by rw [hla']; exact HKL.out)
        have hR4 := fun w (h : Below X2.heap.size X2 w) => rof_at ycs yv k b (.slice eA en ec) w (HU.out w (bel_trans HBE.out h)).2.1 (HQR.out.step (bel_trans HBE.out h)) (by rw [hlb']; exact HKL.out)
        have hC2 := fun w => rcr_any TY (keyV k a').nu (keyV k a').n (keyV k a').s a'.seq (keyV k b).nu (keyV k b).n (keyV k b).s b.seq w
        have eta : ∀ x : Vl, (⟨x.nu, x.n, x.s⟩ : Vl) = x := fun _ => rfl
        simp only [eta] at hC2
        change cmpR TY (keyV k a') a'.seq (keyV k b) b.seq ≤ 0 at hC0
        change cmpR TY (keyV k a') a'.seq (keyV k b) b.seq = 0 → pl < KK at hCN
        generalize cmpR TY (keyV k a') a'.seq (keyV k b) b.seq = C at hC0 hCN hC2
        have hHBQ := HBQ.out
        rw [hHBQ] at hR4
        simp only [hHBQ] at hC2
        generalize (keyV k a').nu = c1 at hR3 hC2
        generalize (keyV k a').n = c2 at hR3 hC2
        generalize (keyV k a').s = c3 at hR3 hC2
        generalize a'.seq = c4 at hR3 hC2 f0
        generalize (keyV k b).nu = d1 at hR4 hC2
        generalize (keyV k b).n = d2 at hR4 hC2
        generalize (keyV k b).s = d3 at hR4 hC2
        have KT := fun w h => Lib.hid (hKT w h)
        have R3 := fun w h => Lib.hid (hR3 w h)
        have R4 := fun w h => Lib.hid (hR4 w h)
        have C2 := fun w => Lib.hid (hC2 w)
        have HVU := fun w (h : Below X2.heap.size X2 w) => Lib.hid (show Var2 w w1.heap.size yv (.int .i64 (k : Int)) ∧ w.cell? (ad.add (p * 2)) = some (.int .i64 c4) ∧ w.cell? ⟨(ad.add (p * 2)).block, (ad.add (p * 2)).off + 1, none⟩ = some (.slice fA fn fc) ∧ Var2 w WO.heap.size (.int .i64 bq) (.slice eA en ec) from by
          have h3 := bel_trans HBE.out h
          refine ⟨(HU.out w h3).1, ?_, ?_, HVR.out.step h⟩
          · rw [h3.cell (by rw [Go.VB.block_add]; exact hab3)]; exact f0
          · rw [h3.cell (p := ⟨(ad.add (p * 2)).block, _, none⟩) (by show (ad.add (p * 2)).block < _; rw [Go.VB.block_add]; exact hab3)]; exact f1)
        have hsub : (i : Int) - 1 = (p : Int) := by omega
        have hpm : (p : Int) < (qn : Int) := by omega
        have hc1 : decide ((0 : Int) < C) = false := decide_eq_false (by omega)
        have HHP := Lib.hid hp
        clear hKT hR3 hR4 hC2 eta hHBQ hSa hla hlc f0 f1 fr hab3 hla' hlb' hp hgi hgi'
        by_cases hcc : C = 0
        · have hc2 : (C == (0 : Int)) = true := Go.VL.ieq_t hcc
          have hkl := hCN hcc
          have hc3 : decide ((KK : Int) < (pl : Int)) = false := decide_eq_false (by omega)
          have hc3' : decide (KK < pl) = false := decide_eq_false (by omega)
          clear hCN hcc hC0
          go_wp2_with fail
          refine Go.Confl.wp_region_confl (by simp only [List.map_cons, List.map_nil]; rfl) (by kernel_rfl) (by kernel_rfl) ?_
          iterate 14
            first
            | (refine Go.Confl.chain_skip (Go.Confl.unwanted_is rfl rfl) ?_)
            | (first | apply Go.Confl.chain_is _ (Go.Confl.wanted_none rfl) | apply Go.Confl.chain_is _ (Go.Confl.wanted_is rfl rfl)
               · intro b w hr hb K hK
                 simp [Go.Confl.readFacts, Go.Confl.tmpsOf, Go.Confl.writerOf, Go.Confl.Is, Op.operands, Call.operands, List.findIdx?, List.findIdx?.go] at hr
                 obtain ⟨⟨y0, y1, -, -⟩, q0, q1, ⟨v0, v1, -, -⟩⟩ := (HVU _ hb).out
                 go_wp2_with (first
                   | (go_at_call 21; (with_reducible refine (KT _ hb).out.mono ?_); rintro e w' ⟨rfl, hb'⟩)
                   | (go_at_call 20; (with_reducible refine (R3 _ hb).out.mono ?_); rintro e w' ⟨rfl, hb'⟩)
                   | (go_at_call 20; (with_reducible refine (R4 _ hb).out.mono ?_); rintro e w' ⟨rfl, hb'⟩)
                   | (go_at_call 24; (with_reducible refine (C2 _).out.mono ?_); rintro e w' ⟨rfl, hb'⟩))
                 try (simp only [hr]; go_wp2)
                 exact hK _ _ rfl (by first | exact Below.refl _ _ | assumption))
            simp only [List.nil_append, List.cons_append]
          intro us w hp hb
          simp [Go.Confl.allPosts, Go.Confl.Is] at hp
          simp only [Go.Confl.putsFrom, hp, Act.put, List.setIfInBounds_toArray, List.set_cons_zero, List.set_cons_succ]
          have HBE2 := Lib.hid (bel_trans HBE.out hb)
          have HRW3 := Lib.hid (RowV.below HRW2.out hb)
          clear hb KT R3 R4 C2 HVU
          have HRELN := Lib.hid (show (i + 1) = 0 ∨ ∃ (pl : Nat) (a' : Rc), (KK : Int) = pl ∧ S[i + 1 - 1]? = some a' ∧ lz[pl]? = some a' ∧ (lz.take pl).count a' = (S.take (i + 1 - 1)).count a' from .inr ⟨KK, b, rfl, HSI.out, HKZ.out, HKC.out⟩)
          go_wp2_with fail
          go_roundw
          all_goals first
            | exact ⟨i + 1, ub.set KK true, _, rfl, by go_num, rfl, hlt, HRW3.out, Lib.hid (by rw [List.length_set]; exact HLU.out), HUS2, HRELN, HBE2.out⟩
            | (simp [intOf]; omega)
        have hc2 : (C == (0 : Int)) = false := Go.VL.ieq_f hcc
        clear hCN hcc hC0
        go_wp2_with fail
        refine Go.Confl.wp_region_confl (by simp only [List.map_cons, List.map_nil]; rfl) (by kernel_rfl) (by kernel_rfl) ?_
        iterate 14
          first
          | (refine Go.Confl.chain_skip (Go.Confl.unwanted_is rfl rfl) ?_)
          | (first | apply Go.Confl.chain_is _ (Go.Confl.wanted_none rfl) | apply Go.Confl.chain_is _ (Go.Confl.wanted_is rfl rfl)
             · intro b w hr hb K hK
               simp [Go.Confl.readFacts, Go.Confl.tmpsOf, Go.Confl.writerOf, Go.Confl.Is, Op.operands, Call.operands, List.findIdx?, List.findIdx?.go] at hr
               obtain ⟨⟨y0, y1, -, -⟩, q0, q1, ⟨v0, v1, -, -⟩⟩ := (HVU _ hb).out
               go_wp2_with (first
                 | (go_at_call 21; (with_reducible refine (KT _ hb).out.mono ?_); rintro e w' ⟨rfl, hb'⟩)
                 | (go_at_call 20; (with_reducible refine (R3 _ hb).out.mono ?_); rintro e w' ⟨rfl, hb'⟩)
                 | (go_at_call 20; (with_reducible refine (R4 _ hb).out.mono ?_); rintro e w' ⟨rfl, hb'⟩)
                 | (go_at_call 24; (with_reducible refine (C2 _).out.mono ?_); rintro e w' ⟨rfl, hb'⟩))
               try (simp only [hr]; go_wp2)
               exact hK _ _ rfl (by first | exact Below.refl _ _ | assumption))
          simp only [List.nil_append, List.cons_append]
        intro us w hp hb
        simp [Go.Confl.allPosts, Go.Confl.Is] at hp
        simp only [Go.Confl.putsFrom, hp, Act.put, List.setIfInBounds_toArray, List.set_cons_zero, List.set_cons_succ]
        have HBE2 := Lib.hid (bel_trans HBE.out hb)
        have HRW3 := Lib.hid (RowV.below HRW2.out hb)
        clear hb KT R3 R4 C2 HVU
        have HRELN := Lib.hid (show (i + 1) = 0 ∨ ∃ (pl : Nat) (a' : Rc), (KK : Int) = pl ∧ S[i + 1 - 1]? = some a' ∧ lz[pl]? = some a' ∧ (lz.take pl).count a' = (S.take (i + 1 - 1)).count a' from .inr ⟨KK, b, rfl, HSI.out, HKZ.out, HKC.out⟩)
        go_wp2_with fail
        go_roundw
        all_goals first
          | exact ⟨i + 1, ub.set KK true, _, rfl, by go_num, rfl, hlt, HRW3.out, Lib.hid (by rw [List.length_set]; exact HLU.out), HUS2, HRELN, HBE2.out⟩
          | (simp [intOf]; omega)
theorem batchSortIsPermutation_holds : Rows.BatchSortIsPermutationSaid :=
  OpenClaim.holds_of_wide 7 Try.f7 rfl rfl rfl rfl rfl rfl rfl ⟨rfl, rfl, rfl, rfl, rfl⟩ rfl rfl rfl rfl rfl (by kernel_rfl) Try.func7 (by kernel_rfl)
    (of_decide_eq_true (by kernel_rfl)) (by unfold Func.isWrapper; first | (rw [if_pos (by decide +kernel)]; kernel_rfl) | (rw [if_neg (by decide +kernel)]; exact ⟨rfl, rfl⟩))
    (fun os started H enc _ => batchSortIsPermutation_lifted os started H enc)
end Go.Proofs.Ytjbkeipagdmlpaa
