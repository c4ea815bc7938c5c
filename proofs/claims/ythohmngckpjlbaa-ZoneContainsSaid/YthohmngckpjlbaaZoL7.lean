/- Statements of layer 14: ZoneContains. -/
import Derived.Test.YthohmngckpjlbaaZoL1
import Derived.Test.YthohmngckpjlbaaConfl
namespace Go.ZN
open Go.RowKit Go.VB Go.VS Go.VL Go.CK Go.Proofs.Ythohmngckpjlbaa
/-- Whether a value that is not null is m. -/
def occ (l : List Vl) (m : Vl) : Bool := l.any fun x => !x.nu && veq x m
theorem occ_snoc (l : List Vl) (m x : Vl) : occ (l ++ [x]) m = (occ l m || (!x.nu && veq x m)) := by
  unfold occ; rw [List.any_append]; simp
theorem take_snoc {l : List Vl} {j : Nat} {x : Vl} (h : l[j]? = some x) : l.take (j + 1) = l.take j ++ [x] := by
  rw [List.take_add_one, h]; rfl
theorem cnt_snoc (l : List Vl) (x : Vl) : (l ++ [x]).countP Vl.nu = l.countP Vl.nu + (if x.nu then 1 else 0) := by
  rw [List.countP_append]; cases hx : x.nu <;> simp [hx]
theorem occ_all {typ sg : Int} {l : List Vl} {m : Vl} (h : isM typ sg l m) : occ l m = decide ((l.countP Vl.nu : Int) < l.length) := by
  have hle : l.countP Vl.nu ≤ l.length := List.countP_le_length
  rcases h with ⟨h, rfl⟩ | ⟨h1, h2, _⟩
  · have e1 : l.countP Vl.nu = l.length := List.countP_eq_length.2 h
    rw [decide_eq_false (by omega)]
    unfold occ
    rw [List.any_eq_false]
    intro x hx
    rw [h x hx]; simp
  · have e1 : l.countP Vl.nu ≠ l.length := fun e => by rw [List.countP_eq_length.1 e m h1] at h2; cases h2
    rw [decide_eq_true (by omega)]
    unfold occ
    rw [List.any_eq_true]
    exact ⟨m, h1, by rw [h2, veq_rfl]; rfl⟩
theorem occ_ways (lo : Bool) (n m : Int) (s t : ByteArray) : (lo = true ∧ (lo || (!false && veq ⟨false, n, s⟩ ⟨false, m, t⟩)) = true) ∨ (lo = false ∧ n = m ∧ s = t ∧ (lo || (!false && veq ⟨false, n, s⟩ ⟨false, m, t⟩)) = true) ∨
    (lo = false ∧ (n == m) = false ∧ ¬ n = m ∧ (lo || (!false && veq ⟨false, n, s⟩ ⟨false, m, t⟩)) = false) ∨ (lo = false ∧ n = m ∧ (s.toList == t.toList) = false ∧ (lo || (!false && veq ⟨false, n, s⟩ ⟨false, m, t⟩)) = false) := by
  cases lo with
  | true => exact .inl ⟨rfl, rfl⟩
  | false =>
    right
    by_cases hn : n = m
    · by_cases hs : s = t
      · left; subst hn; subst hs; exact ⟨rfl, rfl, rfl, by rw [veq_rfl]; rfl⟩
      · right; right
        refine ⟨rfl, hn, text_ne hs, ?_⟩
        cases hv : veq ⟨false, n, s⟩ ⟨false, m, t⟩ with
        | false => rfl
        | true => exact absurd (congrArg Vl.s (veq_iff.1 hv)) hs
    · right; left
      refine ⟨rfl, ieq_f hn, hn, ?_⟩
      cases hv : veq ⟨false, n, s⟩ ⟨false, m, t⟩ with
      | false => rfl
      | true => exact absurd (congrArg Vl.n (veq_iff.1 hv)) hn
theorem isM_in {typ sg : Int} {l : List Vl} {m x : Vl} (h : isM typ sg l m) (hx : x ∈ l) (hn : x.nu = false) : m.nu = false ∧ cmpV typ x m ≠ sg := by
  rcases h with ⟨h, _⟩ | ⟨_, h2, h3⟩
  · rw [h x hx] at hn; cases hn
  · exact ⟨h2, h3 x hx hn⟩
end Go.ZN
namespace Go.Proofs.Ythohmngckpjlbaa
open Go.RowKit Go.VB Go.VL Go.VS Go.ZN Go.CK Go.ChangeShapes Go.WideShapes Go.ChangeAt
set_option linter.constructorNameAsVariable false
set_option maxRecDepth 100000 in
set_option maxHeartbeats 1000000 in
theorem less_no (ty : Int) (n : Int) (s : ByteArray) (m : Int) (t : ByteArray) (w : World) (h : cmpV ty ⟨false, n, s⟩ ⟨false, m, t⟩ ≠ -1) :
    Calls Try.prog 18 #[.int .i64 ty, (.agg #[.bool false, .int .i64 n, .string s]), (.agg #[.bool false, .int .i64 m, .string t])] w (RetB (.bool false) w) := by
  have hc : cmpV ty ⟨false, n, s⟩ ⟨false, m, t⟩ = if ty = 3 then cmpS s t else cmpI n m := rfl
  rw [hc] at h
  clear hc
  by_cases h3 : ty = 3
  · subst h3
    rw [if_pos rfl] at h
    have hb : Go.Op.bytesLess s.toList t.toList = false := by
      cases hh : Go.Op.bytesLess s.toList t.toList with
      | false => rfl
      | true => exact absurd (show cmpS s t = -1 by unfold cmpS; rw [if_pos hh]) h
    clear h
    go_enter Try.func18, Try.ntmps18
    go_wp2
    go_ret
    exact RetB.mk rfl (by go_grown)
  · rw [if_neg h3] at h
    have hb : ¬ n < m := fun hh => h (show cmpI n m = -1 by unfold cmpI; rw [if_pos hh])
    have h3' := ieq_f h3
    clear h h3
    go_enter Try.func18, Try.ntmps18
    go_wp2
    go_ret
    exact RetB.mk rfl (by go_grown)
set_option maxRecDepth 100000 in
set_option maxHeartbeats 4000000 in
theorem zoneContains_lifted (os : Os) (started : os.Started) (H : Type) (enc : TypeId × Value → H) :
    ReturnsInHanded {} Try.checked os 6 .any (Rows.zoneContainsSpec.pre6 enc Try.prog Try.f6 Rows.zoneContainsRow.domain false) (Rows.zoneContainsSpec.post enc Try.prog Try.f6 false true false false) := by
  refine law_lifted (C := Try.checked) (tb := 4) started Try.own Try.laidOut (by kernel_rfl) Try.func6
    (ChangeSpec.witness6 (enc := enc) (C := Try.checked) false ⟨#[], #[.int .i64 0, .bool false, .slice none 0 0], []⟩ 8 (by kernel_rfl) (by kernel_rfl) (by kernel_rfl) (by kernel_rfl))
    rfl rfl Try.underlying4 (by kernel_rfl) (fun ds h => ?_) (fun W base args ds p hval0 hA0 hsz0 hlt => ?_)
  · have h' : ds.length = Try.f6.params.toList.length := h
    rw [Try.params6] at h'
    match ds, h' with
    | [_, _, _], _ => rfl
  · have hval : ∀ (j : Nat) t v, Try.f6.params[j]? = some t → args[j]? = some v → Value.okWide Try.prog W .any base t v := hval0
    have hA : DataW.TrodAll enc Try.prog W 0 (fun _ => true) true Try.f6.params.toList args.toList ds p := hA0
    have hsz : (DataW.weightsEach Try.prog Try.f6.params.toList ds).all (· ≤ reachBytes) = true := hsz0
    rw [Try.params6] at hA hval hsz
    clear hA0 hval0 hsz0
    obtain ⟨v0, vs0, d0, ds0, p0, q0, hargs, rfl, rfl, h0, r0⟩ := trodAll_cons hA
    obtain ⟨v1, vs1, d1, ds1, p1, q1, rfl, rfl, rfl, h1, r1⟩ := trodAll_cons r0
    obtain ⟨v2, vs2, d2, ds2, p2, q2, rfl, rfl, rfl, h2, r2⟩ := trodAll_cons r1
    obtain ⟨rfl, rfl, rfl⟩ := trodAll_nil r2
    obtain rfl : args = #[v0, v1, v2] := by cases args; simp_all
    obtain ⟨t, rfl, rfl, rfl, wt⟩ := open_int Try.underlying3 (hval 0 3 v0 rfl rfl) h0
    obtain ⟨null, rfl, rfl, rfl⟩ := open_bool Try.underlying4 (hval 1 4 v1 rfl rfl) h1
    obtain ⟨zl, rl, wl, bl⟩ := open_rdI Try.underlying30 Try.underlying3 (by kernel_rfl) (hval 2 30 v2 rfl rfl) h2 hsz (j := 2) rfl rfl
    change Calls Try.prog 6 #[.int .i64 t, .bool null, v2] W (RetB (.bool true) W)
    clear bl
    have HCOL := fun w => Lib.hid (column_any t null w wt)
    have hty := pick_ty t
    generalize 1 + pickN t 5 = ty at *
    have HKV := fun w r => Lib.hid (kvals_any w v2 zl ⟨#[120]⟩ ty 0 null r wl hty)
    clear wt
    go_enter Try.func6, Try.ntmps6
    go_wp2_with fail
    (with_reducible refine (HCOL _).out.mono ?_); rintro e w1 ⟨rfl, hb1⟩
    have hba := (Below.refl w1.heap.size w1).alloc (Nat.le_refl _) (.cells #[.string ⟨#[120]⟩, .int .i64 ty, .int .i64 0, .bool null] 32)
    have hc1 := Var4.new w1 (.string ⟨#[120]⟩) (.int .i64 ty) (.int .i64 0) (.bool null) 32
    have hl1 := (rl.step hb1).step hba
    have hB1 := bel_trans hb1 hba
    clear hb1 hba rl wl HCOL hty
    go_wp2_with fail
    (with_reducible refine (HKV _ hl1).out.mono ?_); rintro e w2 ⟨vx, lx, rfl, hown, hlx, -, -, hb2⟩
    have hx2 := hown.read
    have hc2 := hc1.step hb2
    have hB2 := bel_trans hB1 hb2
    clear hb2 hl1 HKV hown hc1 hB1
    obtain ⟨k0, k1, k2, k3⟩ := id hc2
    go_wp2_with fail
    (with_reducible refine (zof_any ty vx lx _ hx2).mono ?_); rintro e w3 ⟨rfl, hb3⟩
    have hx3 := hx2.step hb3
    have hc3 := hc2.step hb3
    have hB3 := bel_trans hB2 hb3
    clear hb3 hx2 hc2 hB2 k0 k1 k2 k3
    have hM := isM_zof ty lx
    have hrows : (zof ty lx).rows = lx.length := rfl
    have hnul : (zof ty lx).nulls = (lx.countP Vl.nu : Nat) := by show ((stz ty lx).1 : Int) = _; rw [stz_count]
    have hmn : (stz ty lx).2.1 = (zof ty lx).mn := rfl
    have hmx : (stz ty lx).2.2 = (zof ty lx).mx := rfl
    rw [hmn, hmx] at hM
    clear hmn hmx
    have hcl : lx.countP Vl.nu ≤ lx.length := List.countP_le_length
    obtain ⟨A, c, n, rfl, hn, hcn, hcm⟩ := hx3.bds
    have hom := occ_all hM.1
    have hox := occ_all hM.2
    rw [← hn] at hom hox hrows hcl
    have HMM := Lib.hid (fun (x : Vl) (hx : x ∈ lx) (h : x.nu = false) => And.intro (isM_in hM.1 hx h) (isM_in hM.2 hx h))
    have HLN := Lib.hid hn
    have HCT := Lib.hid (show ∀ j, (lx.take j).countP Vl.nu ≤ j from fun j => Nat.le_trans List.countP_le_length (by rw [List.length_take]; omega))
    have hC : ∃ C, lx.countP Vl.nu = C := ⟨_, rfl⟩
    obtain ⟨C, hC⟩ := hC
    rw [hC] at hom hox hnul hcl
    have HCC := Lib.hid hC
    generalize zof ty lx = Z at *
    obtain ⟨r, u, ⟨mb, mi, ms⟩, ⟨xb, xi, xs⟩⟩ := Z
    simp only at hom hox hrows hnul
    subst hrows hnul
    simp only [Zn.val]
    have HOM := Lib.hid hom
    have HOX := Lib.hid hox
    have hza := (Below.refl w3.heap.size w3).alloc (Nat.le_refl _) (.cells #[.int .i64 (n : Int), .int .i64 (C : Int), .bool mb, .int .i64 mi, .string ms, .bool xb, .int .i64 xi, .string xs] 25)
    have hz4 := VarZ.new w3 ⟨(n : Int), (C : Int), ⟨mb, mi, ms⟩, ⟨xb, xi, xs⟩⟩ 25
    have HX := Lib.hid (show ∀ w, Below (w3.alloc (.cells #[.int .i64 (n : Int), .int .i64 (C : Int), .bool mb, .int .i64 mi, .string ms, .bool xb, .int .i64 xi, .string xs] 25)).heap.size (w3.alloc (.cells #[.int .i64 (n : Int), .int .i64 (C : Int), .bool mb, .int .i64 mi, .string ms, .bool xb, .int .i64 xi, .string xs] 25)) w → Var4 w w1.heap.size (.string ⟨#[120]⟩) (.int .i64 ty) (.int .i64 0) (.bool null) ∧ VarZ w w3.heap.size ⟨(n : Int), (C : Int), ⟨mb, mi, ms⟩, ⟨xb, xi, xs⟩⟩ ∧ RdL w w.heap.size (.slice A n c) lx ∧ Below W.heap.size W w from fun w hb => ⟨(hc3.step hza).step hb, hz4.step hb, (hx3.step hza).step hb, bel_trans (bel_trans hB3 hza) hb⟩)
    have hn2 : n ≤ 9223372036854775807 := Nat.le_trans hcn hcm
    clear hM hn hC hom hox hza hz4 hx3 hc3 hB3 hcn hcm
    go_wp2_with fail
    go_loopw [6, 10, 11, 12, 28] (fun rv nv lo hi iv wr => ∃ j : Nat, iv = .int .i64 j ∧ rv = .bool false ∧ nv = .int .i64 ((lx.take j).countP Vl.nu : Nat) ∧ lo = .bool (occ (lx.take j) ⟨mb, mi, ms⟩) ∧ hi = .bool (occ (lx.take j) ⟨xb, xi, xs⟩) ∧ j ≤ n ∧ Below (w3.alloc (.cells #[.int .i64 (n : Int), .int .i64 (C : Int), .bool mb, .int .i64 mi, .string ms, .bool xb, .int .i64 xi, .string xs] 25)).heap.size (w3.alloc (.cells #[.int .i64 (n : Int), .int .i64 (C : Int), .bool mb, .int .i64 mi, .string ms, .bool xb, .int .i64 xi, .string xs] 25)) wr) (fun _ _ _ _ iv _ => n - (intOf iv).toNat)
    case atStart => exact ⟨0, rfl, rfl, rfl, rfl, rfl, Nat.zero_le _, Below.refl _ _⟩
    case round =>
      obtain ⟨j, rfl, rfl, rfl, rfl, rfl, hj, hbel⟩ := hrel
      have HBEL := Lib.hid hbel
      by_cases hjn : j < n
      · have hlj : lx[j]? = some (lx[j]'(by rw [← HLN.out]; exact hjn)) := List.getElem?_eq_getElem _
        have hmem : lx[j]'(by rw [← HLN.out]; exact hjn) ∈ lx := List.getElem_mem _
        obtain ⟨⟨k0, k1, k2, k3⟩, hz, hx, -⟩ := HX.out _ hbel
        obtain ⟨ad, rfl, hadb, q0, q1, q2⟩ := hx.at hlj
        have HE := Lib.hid (HMM.out _ hmem)
        have hts := take_snoc hlj
        have hk := cnt_snoc (lx.take j) (lx[j]'(by rw [← HLN.out]; exact hjn))
        have ho1 := occ_snoc (lx.take j) ⟨mb, mi, ms⟩ (lx[j]'(by rw [← HLN.out]; exact hjn))
        have ho2 := occ_snoc (lx.take j) ⟨xb, xi, xs⟩ (lx[j]'(by rw [← HLN.out]; exact hjn))
        rw [← hts] at hk ho1 ho2
        have hkj := HCT.out j
        clear hts hlj hmem HMM hx hbel
        generalize lx[j] = V at *
        generalize hK1 : (lx.take (j + 1)).countP Vl.nu = K1 at hk
        generalize hO1 : occ (lx.take (j + 1)) ⟨mb, mi, ms⟩ = O1 at ho1
        generalize hO2 : occ (lx.take (j + 1)) ⟨xb, xi, xs⟩ = O2 at ho2
        have HK1 := Lib.hid hK1; have HO1 := Lib.hid hO1; have HO2 := Lib.hid hO2
        clear hK1 hO1 hO2
        generalize (lx.take j).countP Vl.nu = K at *
        generalize occ (lx.take j) ⟨mb, mi, ms⟩ = lo at *
        generalize occ (lx.take j) ⟨xb, xi, xs⟩ = hi at *
        obtain ⟨vb, vi, vs⟩ := V
        simp only at q0 q1 q2 hk ho1 ho2
        have hsz := hz.lt
        have hsz1 : w1.heap.size < wr.heap.size := Var4.lt ⟨k0, k1, k2, k3⟩
        obtain ⟨z0, z1, z2, z3, z4, z5, z6, z7, _⟩ := hz
        simp only at z0 z1 z2 z3 z4 z5 z6 z7
        have hw : wrap64 ((K : Int) + 1) = ((K + 1 : Nat) : Int) := by unfold wrap64; omega
        cases vb with
        | true =>
          have hB' := HBEL.out.alloc (by have := HBEL.out.size; omega) (.cells #[.bool true, .int .i64 vi, .string vs] 23)
          have HK2 := Lib.hid hk; have H1 := Lib.hid ho1; have H2 := Lib.hid ho2; have HB' := Lib.hid hB'
          clear hk ho1 ho2 hB'
          go_wp2_with fail
          go_roundw
          case rel => exact ⟨j + 1, by go_num, rfl, by rw [HK1.out, HK2.out]; rfl, by rw [HO1.out, H1.out]; simp, by rw [HO2.out, H2.out]; simp, hjn, HB'.out⟩
          case measure => simp [intOf] <;> omega
        | false =>
          obtain ⟨⟨rfl, hm1⟩, ⟨rfl, hm2⟩⟩ := HE.out rfl
          have HL1 := fun w => Lib.hid (less_no ty vi vs mi ms w hm1)
          have HL2 := fun w => Lib.hid (less_no ty xi xs vi vs w (by have := cmpV_neg ty ⟨false, vi, vs⟩ ⟨false, xi, xs⟩; omega))
          have hbA := HBEL.out.alloc (by have := HBEL.out.size; omega) (.cells #[.bool false, .int .i64 vi, .string vs] 23)
          have hvA := Var3.new wr (.bool false) (.int .i64 vi) (.string vs) 23
          have HVX := Lib.hid (show ∀ w, Below (wr.alloc (.cells #[.bool false, .int .i64 vi, .string vs] 23)).heap.size (wr.alloc (.cells #[.bool false, .int .i64 vi, .string vs] 23)) w → Var4 w w1.heap.size (.string ⟨#[120]⟩) (.int .i64 ty) (.int .i64 0) (.bool null) ∧ VarZ w w3.heap.size ⟨(n : Int), (C : Int), ⟨false, mi, ms⟩, ⟨false, xi, xs⟩⟩ ∧ Var3 w wr.heap.size (.bool false) (.int .i64 vi) (.string vs) ∧ Below (w3.alloc (.cells #[.int .i64 (n : Int), .int .i64 (C : Int), .bool false, .int .i64 mi, .string ms, .bool false, .int .i64 xi, .string xs] 25)).heap.size (w3.alloc (.cells #[.int .i64 (n : Int), .int .i64 (C : Int), .bool false, .int .i64 mi, .string ms, .bool false, .int .i64 xi, .string xs] 25)) w from fun w hb => ⟨(HX.out _ (bel_trans hbA hb)).1, (HX.out _ (bel_trans hbA hb)).2.1, hvA.step hb, bel_trans hbA hb⟩)
          have HO1' := Lib.hid ho1; have HO2' := Lib.hid ho2; have HK2 := Lib.hid hk
          clear hm1 hm2 hbA hvA ho1 ho2 hk hw HE HBEL
          go_wp2_with fail
          (with_reducible refine (HL1 _).out.mono ?_); rintro e w5 ⟨rfl, hb5⟩
          clear k0 k1 k2 k3 z0 z1 z2 z3 z4 z5 z6 z7 q0 q1 q2
          obtain ⟨⟨k0, k1, k2, k3⟩, ⟨z0, z1, z2, z3, z4, z5, z6, z7, _⟩, ⟨q0, q1, q2, _, _, _⟩, -⟩ := HVX.out _ hb5
          simp only at z0 z1 z2 z3 z4 z5 z6 z7
          go_wp2_with fail
          (with_reducible refine (HL2 _).out.mono ?_); rintro e w6 ⟨rfl, hb6⟩
          clear k0 k1 k2 k3 z0 z1 z2 z3 z4 z5 z6 z7 q0 q1 q2
          obtain ⟨-, hzz, hvv, hbb⟩ := HVX.out _ (bel_trans hb5 hb6)
          have HZZ := fun w (hb : Below w6.heap.size w6 w) => Lib.hid (And.intro (hzz.step hb) (hvv.step hb))
          have HB6 := Lib.hid hbb
          clear hb5 hb6 hzz hvv hbb HVX HL1 HL2
          go_wp2_with fail
          rcases occ_ways lo vi mi vs ms with ⟨rfl, hR1⟩ | ⟨rfl, rfl, rfl, hR1⟩ | ⟨rfl, c1, c2, hR1⟩ | ⟨rfl, rfl, c1, hR1⟩
          all_goals
            rcases occ_ways hi vi xi vs xs with ⟨rfl, hR2⟩ | ⟨rfl, rfl, rfl, hR2⟩ | ⟨rfl, d1, d2, hR2⟩ | ⟨rfl, rfl, d1, hR2⟩
            all_goals
              have HR1 := Lib.hid hR1; have HR2 := Lib.hid hR2
              clear hR1 hR2
              refine Go.Confl.wp_region_confl (by simp only [List.map_cons, List.map_nil]; rfl) (by kernel_rfl) (by kernel_rfl) ?_
              iterate 16
                first
                | (refine Go.Confl.chain_skip (Go.Confl.unwanted_is rfl rfl) ?_)
                | (first | apply Go.Confl.chain_is _ (Go.Confl.wanted_none rfl) | apply Go.Confl.chain_is _ (Go.Confl.wanted_is rfl rfl)
                   · intro b w hr hb K hK
                     simp [Go.Confl.readFacts, Go.Confl.tmpsOf, Go.Confl.writerOf, Go.Confl.Is, Op.operands, List.findIdx?, List.findIdx?.go] at hr
                     obtain ⟨⟨-, -, z2, z3, z4, z5, z6, z7, _⟩, ⟨q0, q1, q2, _, _, _⟩⟩ := (HZZ _ hb).out
                     simp only at z2 z3 z4 z5 z6 z7
                     go_wp2_with fail
                     try (simp only [hr]; go_wp2)
                     exact hK _ _ rfl (by first | exact Below.refl _ _ | assumption))
                simp only [List.nil_append, List.cons_append]
              intro us w hp hb
              simp [Go.Confl.allPosts, Go.Confl.Is] at hp
              simp only [Go.Confl.putsFrom, hp, Act.put, List.setIfInBounds_toArray, List.set_cons_zero, List.set_cons_succ]
              clear hp
              go_wp2_with fail
              go_roundw
              case rel => exact ⟨j + 1, by go_num, rfl, by rw [HK1.out, HK2.out]; rfl, by rw [HO1.out, HO1'.out, HR1.out], by rw [HO2.out, HO2'.out, HR2.out], hjn, bel_trans HB6.out hb⟩
              case measure => simp [intOf] <;> omega
      · obtain rfl : n = j := by omega
        have ht : lx.take n = lx := by rw [HLN.out, List.take_length]
        rw [ht]
        have HOM' := HOM.out; have HOX' := HOX.out; have HCC' := HCC.out
        rw [HOM', HOX', HCC']
        clear HOM' HOX' HCC' ht HMM HCT
        obtain ⟨-, hz, -, -⟩ := HX.out _ hbel
        have HVZ := fun w (hb : Below wr.heap.size wr w) => Lib.hid (hz.step hb)
        have hbw := (HX.out _ hbel).2.2.2
        clear hz
        go_wp2_with fail
        (with_reducible refine (awake14_any _).mono ?_); rintro e w9 ⟨rfl, hb9⟩
        obtain ⟨z0, z1, z2, z3, z4, z5, z6, z7, _⟩ := (HVZ _ hb9).out
        simp only at z0 z1 z2 z3 z4 z5 z6 z7
        have hB := bel_trans hbw hb9
        go_wp2
        go_ret
        exact RetB.mk rfl hB
theorem zoneContains_holds : Rows.ZoneContainsSaid :=
  OpenClaim.holds_of_wide 6 Try.f6 rfl rfl rfl rfl rfl rfl rfl ⟨rfl, rfl, rfl, rfl, rfl⟩ rfl rfl rfl rfl rfl (by kernel_rfl) Try.func6 (by kernel_rfl)
    (of_decide_eq_true (by kernel_rfl)) (by unfold Func.isWrapper; first | (rw [if_pos (by decide +kernel)]; kernel_rfl) | (rw [if_neg (by decide +kernel)]; exact ⟨rfl, rfl⟩))
    (fun os started H enc _ => zoneContains_lifted os started H enc)
end Go.Proofs.Ythohmngckpjlbaa
