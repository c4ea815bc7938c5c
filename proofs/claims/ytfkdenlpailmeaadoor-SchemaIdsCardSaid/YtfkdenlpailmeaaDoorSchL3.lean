/- SchemaIds: the Id is the checksum of the text, and schemas which differ in a name have different Ids: a tied card; the tables that its row lists are never read (the scales are below 100). No condition. -/
import Derived.Test.YtfkdenlpailmeaaDoorSchU
namespace Go.Proofs.YtfkdenlpailmeaaDoor
open Go.RowKit Go.VB Go.VL Go.SC Go.CR Go.ChangeShapes Go.WideShapes Go.ChangeAt
set_option linter.constructorNameAsVariable false
set_option maxRecDepth 100000 in
set_option maxHeartbeats 8000000 in
theorem ids_walk (v : Value) (zl : List Int) (q : Int) (W : World) (rl : RdI .i64 W W.heap.size v zl) (wl : ∀ z ∈ zl, (Lit.int .i64 z).wf = true) (wq : (Lit.int .i64 q).wf = true) :
    Calls Tryd.prog 7 #[v, .int .i64 q] W (RetB (.bool true) W) := by
  have hAw := fun w => Lib.hid (awake7_any w)
  have HK := Lib.hid (kSch_any W v zl rl wl)
  obtain ⟨A, cap, rfl, _⟩ := rl
  clear wl
  go_enter Tryd.func7, Tryd.ntmps7
  go_wp2_with fail
  refine HK.out.mono ?_
  rintro e w1 ⟨hb1, v1, cs, key, rfl, ho1, hko⟩
  have hchk := kok_chk hko
  have hR1 := ho1.read
  have hl1 := hko.1
  have hl4 := hko.2.1
  obtain ⟨ad1, cap1, hv1, had1⟩ : ∃ ad cap, v1 = .slice (some ad) cs.length cap ∧ ad.block < w1.heap.size := by
    obtain ⟨A1, c1, rfl, _, _, hr⟩ := hR1
    obtain ⟨ad, h1, h2, _⟩ := hr 0 (by omega)
    exact ⟨ad, c1, by rw [h1], h2⟩
  subst hv1
  clear HK ho1
  have hal : Below w1.heap.size w1 (w1.alloc (.cells #[.slice (some ad1) cs.length cap1, .int .i64 key] 24)) := (Below.refl _ _).alloc (Nat.le_refl _) _
  have hV := Var2.new w1 (.slice (some ad1) cs.length cap1) (.int .i64 key) 24
  have hR2 := hR1.step hal
  have HF := Lib.hid (format_any cs (.slice (some ad1) cs.length cap1) key _ hR2)
  rw [FT_ok hchk, hchk] at HF
  have hB := bel_trans hb1 hal
  clear hb1 hR1 hal
  have HCRC := fun w => Lib.hid (rcrc7_any (fmtL cs key) w (by have := (fmtL_len hchk).2; omega))
  have HIDN := Lib.hid (IDN_ok hchk)
  rw [← HIDN.out] at HCRC
  generalize str (fmtL cs key) = T at *
  obtain ⟨l0, l1, f0, f1⟩ := id hV
  go_wp2_with fail
  clear l0 l1 f0 f1
  generalize w1.heap.size = g5 at *
  generalize w1.alloc (.cells #[.slice (some ad1) cs.length cap1, .int .i64 key] 24) = w2 at *
  refine HF.out.mono ?_
  rintro e w3 ⟨rfl, hb3⟩
  replace hB := bel_trans hB hb3
  replace hV := hV.step hb3
  replace hR2 := hR2.step hb3
  clear HF hb3
  have HVV := fun (w : World) (hb : Below w3.heap.size w3 w) => Lib.hid (hV.step hb)
  have HRR := fun (w : World) (hb : Below w3.heap.size w3 w) => Lib.hid (hR2.below hb)
  have bd : Below w3.heap.size w3 w3.drew := (Below.refl _ _).drew
  have ba : Below w3.heap.size w3 (w3.alloc (.cells #[.slice none 0 0, .int .i64 0] 24)).drew := ((Below.refl _ _).alloc (Nat.le_refl _) _).drew
  have HC0 := Lib.hid (rd_cells (hR2.below bd))
  have HC1 := Lib.hid (rd_cells (hR2.below ba))
  have hN1 := Var2.new w3 (.slice none 0 0) (.int .i64 0) 24
  have hN2 : Var2 (w3.alloc (.cells #[.slice none 0 0, .int .i64 0] 24)).drew w3.heap.size (.slice none 0 0) (.int .i64 0) := hN1.step ((Below.refl _ _).drew)
  have hlc : (colCells cs).length = cs.length * 4 := colCells_len cs
  obtain ⟨iC, hiC, hzC, hsC, hbC⟩ := info_parts Tryd.infCol
  go_upto_region 3 with fail
  go_cut [8] from 14 to 89 (fun p8 w' => ∃ (b8 g8 cap8 : Nat), p8 = .pointer (some ⟨b8, 0, none⟩) ∧ Below w3.heap.size w3 w' ∧ w3.heap.size ≤ b8 ∧ w3.heap.size ≤ g8 ∧ b8 ≠ g8 ∧ cs.length ≤ cap8 ∧ cap8 ≤ maxLen ∧ Var2 w' b8 (.slice (some ⟨g8, 0, none⟩) cs.length cap8) (.int .i64 key) ∧ RowC 32 w' w3.heap.size g8 cap8 cs)
  case first =>
    have hg53 := hV.lt
    obtain ⟨l0, l1, f0, f1⟩ := id hV
    go_region_law (first
      | ((refine step_append_grows rfl (.const (.slice none 0 0)) (.tmp 22) 22 rfl 32 iC col0.val 4 40 Tryd.underlying22 hiC hzC hsC hbC rfl (by decide) none 0 0 [] rfl (fun _ => ⟨rfl, rfl⟩) rfl (fun _ h => by cases h) ad1 cs.length cap1 (colCells cs) rfl hlc (HC0.out) (colCells_one cs) (by omega) (by unfold maxLen; omega) (by omega) ?_); intro v8 w8 hown hgrow; rw [Nat.zero_add, List.nil_append] at hown; have ho8 : OwnC 32 w8 _ v8 cs := hown; obtain ⟨g8, cap8, rfl, hrow, hge, hlt8, hcc, hcm⟩ := ho8.form hl1; have hb8 := bd.trans (below_grown hgrow); have hg58 := (HVV _ hb8).out.lt; obtain ⟨l0', l1', f0', f1'⟩ := (HVV _ hb8).out)
      | ((refine step_append_grows rfl (.const (.slice none 0 0)) (.tmp 22) 22 rfl 32 iC col0.val 4 40 Tryd.underlying22 hiC hzC hsC hbC rfl (by decide) none 0 0 [] rfl (fun _ => ⟨rfl, rfl⟩) rfl (fun _ h => by cases h) ad1 cs.length cap1 (colCells cs) rfl hlc (HC1.out) (colCells_one cs) (by omega) (by unfold maxLen; omega) (by omega) ?_); intro v8 w8 hown hgrow; rw [Nat.zero_add, List.nil_append] at hown; have ho8 : OwnC 32 w8 _ v8 cs := hown; obtain ⟨g8, cap8, rfl, hrow, hge, hlt8, hcc, hcm⟩ := ho8.form hl1; have hb8 := ba.trans ((below_grown hgrow).mono ba.size); have hg58 := (HVV _ hb8).out.lt; obtain ⟨l0', l1', f0', f1'⟩ := (HVV _ hb8).out; obtain ⟨m0, m1, h0, h1⟩ := hN2.step (below_grown hgrow)))
    all_goals clear hAw HCRC HIDN HVV HRR HC0 HC1 hko
    all_goals
      go_wp2_with fail
      go_meet
      case rel => first
        | exact ⟨w8.heap.size, g8, cap8, rfl, hb8.alloc hb8.size _, hb8.size, hge, by omega, hcc, hcm, Var2.new w8 _ _ _, hrow.alloc _⟩
        | (have hz : (w3.alloc (.cells #[.slice none 0 0, .int .i64 0] 24)).drew.heap.size = w3.heap.size + 1 := by (show (w3.alloc _).heap.size = _; simp)
           rw [hz] at hge
           have hrow2 : RowC 32 w8 w3.heap.size g8 cap8 cs := OwnC.lower hrow (by rw [hz]; omega)
           exact ⟨w3.heap.size, g8, cap8, rfl, (hb8.setCell (p := ⟨w3.heap.size, 0, none⟩) (Nat.le_refl _) _).setCell (p := ⟨w3.heap.size, 1, none⟩) (Nat.le_refl _) _, Nat.le_refl _, by omega, by omega, hcc, hcm, Var2.set01 ⟨m0, m1, h0, h1⟩ _ _, (hrow2.other (by omega) _).other (by omega) _⟩)
  case rest =>
    obtain ⟨b8, g8, cap8, rfl, hb, hb8, hg8, hbg, hcc, hcm, hV8, hrow⟩ := hcut
    clear bd ba HC0 HC1 hN1 hN2 hlc hiC hzC hsC hbC hR2
    unfold maxLen at hcm
    have HPk := fun w => Lib.hid (pick_at q (cs.length : Int) w wq (by omega) (by omega))
    obtain ⟨p0, p1⟩ := pickN_bd q (n := (cs.length : Int)) (by omega)
    generalize pickN q (cs.length : Int) = p at *
    obtain ⟨p, rfl⟩ := Int.eq_ofNat_of_zero_le p0
    have hp : p < cs.length := by omega
    clear wq p0 p1
    obtain ⟨k0, k1, h0, h1⟩ := id hV8
    go_wp2_with fail
    go_quiet (first | (go_at_call 16; refine quiet7 (HPk _).out))
    clear k0 k1 h0 h1
    have hq := Go.below_drewN (Below.refl wc.heap.size wc) nq
    replace hb := Go.below_drewN hb nq
    replace hV8 := hV8.step hq
    replace hrow := hrow.below hq
    clear hq
    generalize wc.drewN nq = w4 at *
    clear wc
    have hx0 := hrow.nameAt hp
    have hf0 := hrow.frozenAt (p * 4)
    have hrow5 : RowC 32 (w4.setCell ⟨g8, p * 4, none⟩ (.string ⟨#[121]⟩)) w3.heap.size g8 cap8 (setY cs p) := hrow.store p 0 (.string ⟨#[121]⟩) ⟨yS, (cs.getD p col0).ty, (cs.getD p col0).sc, (cs.getD p col0).nu⟩ hp (by decide) rfl
    have hV5 := hV8.other2 (c := g8) (i := p * 4) (u := .string ⟨#[121]⟩) hbg
    have hb5 : Below w3.heap.size w3 (w4.setCell ⟨g8, p * 4, none⟩ (.string ⟨#[121]⟩)) := hb.setCell (p := ⟨g8, p * 4, none⟩) hg8 _
    obtain ⟨k0, k1, h0, h1⟩ := id hV5
    clear hb hV8 hrow
    go_wp2_with fail
    generalize w4.setCell ⟨g8, p * 4, none⟩ (.string ⟨#[121]⟩) = w5 at *
    clear hx0 hf0 w4
    go_quiet (first | (go_at_call 16; refine quiet7 (HPk _).out))
    clear k0 k1 h0 h1
    have hq := Go.below_drewN (Below.refl w5.heap.size w5) nq
    replace hb5 := Go.below_drewN hb5 nq
    replace hV5 := hV5.step hq
    replace hrow5 := hrow5.below hq
    clear hq
    generalize w5.drewN nq = w6 at *
    clear w5 HPk
    have hx0 := hrow5.nameAt (i := p) (by rw [setY_len]; exact hp)
    have hf0 := hrow5.frozenAt (p * 4)
    obtain ⟨k0, k1, h0, h1⟩ := id hV5
    obtain ⟨l0, l1, f0, f1⟩ := (HVV _ hb5).out
    go_upto_if 45 with fail
    go_cut [] from 14 to 89 (fun w' => ∃ ds : List Col, Below w3.heap.size w3 w' ∧ Var2 w' b8 (.slice (some ⟨g8, 0, none⟩) cs.length cap8) (.int .i64 key) ∧ RowC 32 w' w3.heap.size g8 cap8 ds ∧ ds.length = cs.length ∧ (ds = cs ∨ (key ≠ p ∧ ds = setY cs p)))
    case first =>
      by_cases hk : key = (p : Int)
      · have hd : (key == (p : Int)) = true := ieq_t hk
        obtain ⟨_, _, hv, _, hmx1, hr⟩ := (HRR _ hb5).out
        injection hv with a1 _ a3
        subst a1; subst a3
        obtain ⟨ad, h2, _, hat⟩ := hr p hp
        obtain rfl := Option.some.inj h2
        obtain ⟨z0, _, _, _⟩ := hat
        have hrow7 := hrow5.store p 0 (.string (cs.getD p col0).nm) (cs.getD p col0) (by rw [setY_len]; exact hp) (by decide) (by rw [setY_same hp]; rfl)
        rw [setY_back hp] at hrow7
        have hV7 := hV5.other2 (c := g8) (i := p * 4) (u := .string (cs.getD p col0).nm) hbg
        have hb7 := hb5.setCell (p := ⟨g8, p * 4, none⟩) hg8 (.string (cs.getD p col0).nm)
        subst hk
        unfold maxLen at hmx1
        clear hr HRR HVV hAw HCRC HIDN hko hchk
        generalize (cs.getD p col0).nm = NM at *
        go_wp2_with fail
        go_meet
        case rel => exact ⟨cs, hb7, hV7, hrow7, rfl, .inl rfl⟩
      · have hd : (key == (p : Int)) = false := ieq_f hk
        clear HRR HVV hAw HCRC HIDN hko hchk
        go_wp2_with fail
        go_meet
        case rel => exact ⟨setY cs p, hb5, hV5, hrow5, setY_len cs p, .inr ⟨hk, rfl⟩⟩
    case rest =>
      obtain ⟨ds, hb9, hV9, hrow9, hdl, hor⟩ := hcut
      clear hx0 hf0 k0 k1 h0 h1 l0 l1 f0 f1 hb5 hV5 hrow5
      have hcd : chkS ds key = 0 := by
        rcases hor with rfl | ⟨_, rfl⟩
        · exact hchk
        · exact setY_chk hko hp
      obtain ⟨b, hbe, hSS⟩ : ∃ b : Bool, (((IDN cs key : Nat) : Int) == ((IDN ds key : Nat) : Int)) = b ∧ ∀ x y w, RdC w w.heap.size x cs → RdC w w.heap.size y ds → Calls Tryd.prog 18 #[.agg #[x, .int .i64 key], .agg #[y, .int .i64 key]] w (RetB (.bool b) w) := by
        rcases hor with rfl | ⟨hk, rfl⟩
        · exact ⟨true, beq_self_eq_true _, fun x y w hx hy => sameS_eq x y key ds w hx hy⟩
        · refine ⟨false, ieq_f (fun e => setY_id hko hp hk (by omega)), fun x y w hx hy => sameS_ne x y key cs (setY cs p) p w hx hy (setY_len cs p) hp (fun i hi => setY_other (by omega)) ?_⟩
          rw [setY_same hp]
          obtain ⟨_, _, hkk, _⟩ := hko
          rw [(hkk p hp).1]
          exact k_ne_y _ (by omega)
      have hR9 := (HRR _ hb9).out
      have hRx : RdC wc wc.heap.size (.slice (some ⟨g8, 0, none⟩) cs.length cap8) ds := by have h := OwnC.read hrow9; rw [hdl] at h; exact h
      have hR9' : RdC wc wc.heap.size (.slice (some ad1) cs.length cap1) cs := hR9.more hb9.size
      have hV9s := (HVV _ hb9).out
      have hB9 : Below W.heap.size W wc := bel_trans hB hb9
      have hI1 := fun w h => Lib.hid (id_any cs (.slice (some ad1) cs.length cap1) key w h)
      have hI2 := fun w h => Lib.hid (id_any ds (.slice (some ⟨g8, 0, none⟩) cs.length cap8) key w h)
      rw [hchk] at hI1
      rw [hcd] at hI2
      have hSS2 := fun w hx hy => Lib.hid (hSS (.slice (some ad1) cs.length cap1) (.slice (some ⟨g8, 0, none⟩) cs.length cap8) w hx hy)
      have e1 : (((IDN cs key : Nat) : Int) == ((IDN cs key : Nat) : Int)) = true := beq_self_eq_true _
      have e2 : (b == b) = true := beq_self_eq_true _
      clear hSS hor hR9 hrow9 hb9 HRR HVV hB hko hchk hcd hdl hp HIDN hV
      generalize ((IDN cs key : Nat) : Int) = I1 at *
      generalize ((IDN ds key : Nat) : Int) = I2 at *
      obtain ⟨l0, l1, _, _⟩ := id hV9s
      go_wp2_with fail
      clear l0 l1
      refine (hI1 _ hR9').out.mono ?_
      rintro e w10 ⟨rfl, hb10⟩
      replace hB9 := bel_trans hB9 hb10
      replace hV9 := hV9.step hb10
      replace hV9s := hV9s.step hb10
      replace hRx := hRx.step hb10
      replace hR9' := hR9'.step hb10
      clear hI1 hb10
      obtain ⟨k0, k1, _, _⟩ := id hV9
      go_wp2_with fail
      clear k0 k1
      refine (hI2 _ hRx).out.mono ?_
      rintro e w11 ⟨rfl, hb11⟩
      replace hB9 := bel_trans hB9 hb11
      replace hV9 := hV9.step hb11
      replace hV9s := hV9s.step hb11
      replace hRx := hRx.step hb11
      replace hR9' := hR9'.step hb11
      clear hI2 hb11
      go_wp2_with fail
      refine (hAw _).out.mono ?_
      rintro e w12 ⟨rfl, hb12⟩
      replace hB9 := bel_trans hB9 hb12
      replace hV9 := hV9.step hb12
      replace hV9s := hV9s.step hb12
      replace hRx := hRx.step hb12
      replace hR9' := hR9'.step hb12
      clear hAw hb12
      go_wp2_with fail
      refine (HCRC _).out.mono ?_
      rintro e w13 ⟨rfl, hb13⟩
      replace hB9 := bel_trans hB9 hb13
      replace hV9 := hV9.step hb13
      replace hV9s := hV9s.step hb13
      replace hRx := hRx.step hb13
      replace hR9' := hR9'.step hb13
      clear HCRC hb13
      have hS9 := Lib.hid (hSS2 _ hR9' hRx).out
      clear hSS2 hRx hR9'
      obtain ⟨k0, k1, _, _⟩ := hV9
      obtain ⟨l0, l1, _, _⟩ := hV9s
      go_wp2_with fail
      refine hS9.out.mono ?_
      rintro e w14 ⟨rfl, hb14⟩
      go_wp2_with fail
      go_ret
      exact RetB.mk rfl (bel_trans hB9 hb14)
set_option maxRecDepth 100000 in
set_option maxHeartbeats 4000000 in
theorem schemaIds_lifted (os : Os) (started : os.Started) (H : Type) (enc : TypeId × Value → H) :
    ReturnsInHanded {} Tryd.checked os 7 .any (fun w args => (Rows.schemaIdsSpec.pre enc Tryd.prog Tryd.f7 Rows.schemaIdsRow.domain false w args ∧ laidMetH Tryd.prog Rows.schemaIdsRow.laid w) ∧ sizedMet enc Tryd.prog Tryd.f7 (OpenSpec.ofChange Rows.schemaIdsSpec) false w args) (Rows.schemaIdsSpec.post enc Tryd.prog Tryd.f7 false true false false) := by
  refine laid_lifted (C := Tryd.checked) (tb := 4) (laid := Rows.schemaIdsRow.laid) started Tryd.own Tryd.laidOut (by kernel_rfl) Tryd.func7
    (ChangeSpec.witness_shaped (enc := enc) (C := Tryd.checked) (os := os) (X := fun w _ => laidMetH Tryd.prog Rows.schemaIdsRow.laid w) false (World.laidAll Tryd.prog os Rows.schemaIdsRow.laid) #[.slice none 0 0, .int .i64 0] 8 (World.laidAll_os _ _ _) (World.shaped_of_ZipB (by kernel_rfl) (by kernel_rfl)) (by kernel_rfl) (by kernel_rfl) (by kernel_rfl) (by rw [MakeChecks.laidMetH_plain _ _ _ (by kernel_rfl)]; exact laidMet_laidAll _ (by kernel_rfl) (by kernel_rfl)))
    rfl rfl Tryd.underlying4 (by kernel_rfl) (fun ds h => ?_) (fun W base args ds p hval0 hA0 hsz0 hlt hL => ?_)
  · have h' : ds.length = Tryd.f7.params.toList.length := h
    rw [Tryd.params7] at h'
    match ds, h' with
    | [_, _], _ => rfl
  · have hval : ∀ (j : Nat) t v, Tryd.f7.params[j]? = some t → args[j]? = some v → Value.okWide Tryd.prog W .any base t v := hval0
    have hA : DataW.TrodAll enc Tryd.prog W 0 (fun _ => true) true Tryd.f7.params.toList args.toList ds p := hA0
    have hsz : (DataW.weightsEach Tryd.prog Tryd.f7.params.toList ds).all (· ≤ reachBytes) = true := hsz0
    rw [Tryd.params7] at hA hval hsz
    clear hA0 hval0 hsz0
    have ht : TabOk W := tab_of_laid hL
    clear hL
    obtain ⟨v0, vs0, d0, ds0, p0, q0, hargs, rfl, rfl, h0, r0⟩ := trodAll_cons hA
    obtain ⟨v1, vs1, d1, ds1, p1, q1, rfl, rfl, rfl, h1, r1⟩ := trodAll_cons r0
    obtain ⟨rfl, rfl, rfl⟩ := trodAll_nil r1
    obtain rfl : args = #[v0, v1] := by cases args; simp_all
    obtain ⟨zl, rl, wl, bl⟩ := open_rdI Tryd.underlying37 Tryd.underlying3 (by kernel_rfl) (hval 0 37 v0 rfl rfl) h0 hsz (j := 0) rfl rfl
    obtain ⟨q, rfl, rfl, rfl, wq⟩ := open_int Tryd.underlying3 (hval 1 3 v1 rfl rfl) h1
    change Calls Tryd.prog 7 #[v0, .int .i64 q] W (RetB (.bool true) W)
    exact ids_walk v0 zl q W rl wl wq
theorem schemaIds_holds : Rows.SchemaIdsSaid :=
  OpenClaim.holds_of_wide 7 Tryd.f7 rfl rfl rfl rfl rfl rfl rfl ⟨rfl, rfl, rfl, rfl, rfl⟩ rfl rfl rfl rfl rfl (by kernel_rfl) Tryd.func7 (by kernel_rfl)
    (of_decide_eq_true (by kernel_rfl)) (by unfold Func.isWrapper; first | (rw [if_pos (by decide +kernel)]; kernel_rfl) | (rw [if_neg (by decide +kernel)]; exact ⟨rfl, rfl⟩))
    (fun os started H enc _ => schemaIds_lifted os started H enc)
theorem schemaIds_card : Rows.SchemaIdsCardSaid :=
  Claim7.holds_tied_plain_at .later [] [.data, .data, .data] true Rows.schemaIdsCard.stood.harness false schemaIds_holds (fun _ h => by cases h) (by kernel_rfl) (fun _ h => by cases h) schemaIds_row_tie rfl ⟨rfl, rfl⟩ (by kernel_rfl) rfl
    (fun f fn hf hfn => by
      obtain rfl : f = 7 := Option.some.inj ((show Tryd.prog.funcNamed Rows.schemaIdsRow.func = some 7 by kernel_rfl).symm.trans hf) |>.symm
      obtain rfl : fn = Tryd.f7 := (Option.some.inj (Tryd.func7.symm.trans hfn)).symm
      exact ⟨by kernel_rfl, fun j t ht => by
        rw [Tryd.params7] at ht
        have hm : t ∈ [37, 3] := by simpa using Array.mem_of_getElem? ht
        have hall : ([37, 3].all fun u => !Tryd.prog.wantsStandIn u) = true := by kernel_rfl
        exact (show Tryd.prog.wantsStandIn t = false by simpa using List.all_eq_true.1 hall t hm)⟩)
    (by kernel_rfl)
end Go.Proofs.YtfkdenlpailmeaaDoor
