/- SchemaGenerated: Check, Format, Id and Find return the specified results for valid schemas and for such schemas of which one place has been changed: a tied card; the tables that its row lists are never read (the scales that are written are below 100). No condition. -/
import Derived.Test.YtfkdenlpailmeaaDoorSchU
import Derived.Deep.RegionHeldLaw
import Derived.Maps.AppendAt
import Derived.BigQuiet
namespace Go.SC
open Go.RowKit Go.VB Go.VL
theorem RowC.fields {T : TypeId} {w : World} {base g c : Nat} {cs : List Col} (h : RowC T w base g c cs) {i : Nat} (hi : i < cs.length) : w.cell? ⟨g, i * 4 + 1, none⟩ = some (.int .i64 (cs.getD i col0).ty) ∧ w.cell? ⟨g, i * 4 + 2, none⟩ = some (.int .i64 (cs.getD i col0).sc) := by
  have h4 := h.at4 hi
  have h1 := h4.c1
  have h2 := h4.c2
  rw [addr0] at h1 h2
  exact ⟨h1, h2⟩
/-- A slice of the call's own, read at any length of its own. -/
theorem RowC.rd {T : TypeId} {w : World} {base g c n : Nat} {cs : List Col} (h : RowC T w base g c cs) (hn : cs.length = n) : RdC w w.heap.size (.slice (some ⟨g, 0, none⟩) n c) cs := by
  subst hn; exact OwnC.read h
theorem Var2.grown {w w' : World} {row : Option Nat} {b : Nat} {x y : Value} (h : Var2 w b x y) (hg : w.grownBy w' row) (hb : row ≠ some b) : Var2 w' b x y :=
  have k : ∀ i, w'.cell? ⟨b, i, none⟩ = w.cell? ⟨b, i, none⟩ := fun _ => World.cell?_of_block (hg.block b h.lt (fun e => hb e.symm))
  have k2 : ∀ i, w'.frozen? ⟨b, i, none⟩ = w.frozen? ⟨b, i, none⟩ := fun _ => World.frozen?_of_block (hg.block b h.lt (fun e => hb e.symm))
  ⟨(k 0).trans h.c0, (k 1).trans h.c1, (k2 0).trans h.f0, (k2 1).trans h.f1⟩
/-- A call of a function that returns v and leaves the world, as one step of a region that draws. -/
theorem step_callRet {P : Program} {ops : Array Oper} {o : Oper} {a : Act} {w : World} {K : Act → World → Prop} {Q : Exit → Act → World → Prop} {E : Prop}
    (hg : o.guard = none) (f : FuncId) (x : Operand) (t : TypeId) (hop : o.op = Op.call { callee := Callee.value (.func f), args := #[x], argTypes := #[t] })
    (fn : Func) (hf : P.funcs[f]? = some fn) (hn : (fn.name == "runtime.NumGoroutine") = false) (hb : fn.body.isSome = true) (v : Value) (h : Calls P f #[a.eval x] w (Ret v w)) (hK : K (a.put o.dst v) w) :
    if Region.wanted o (yielded ops a.tmps) = true then Oper.wp P o a w K Q else E := by
  have hw : Region.wanted o (yielded ops a.tmps) = true := by simp [Region.wanted, hg]
  have hn2 : ¬ fn.name = "runtime.NumGoroutine" := by simpa using hn
  have hb2 : ¬ fn.body = none := fun e => by rw [e] at hb; cases hb
  have hev : a.eval (Operand.func f) = .func (.func f) #[] #[] := rfl
  rw [if_pos hw]
  unfold Oper.wp
  simp [execOp, hop, resolve, Deferred.ofValue, invoke, callFunc, Result.andThen, Oper.upon, hev, hf, hn2, hb2]
  refine Calls.mono h ?_
  rintro e w' ⟨rfl, rfl⟩
  exact hK
/-- append of one column onto a slice of the call's own, as one step of a region that draws. -/
theorem step_appC {P : Program} {ops : Array Oper} {o : Oper} {a : Act} {w : World} {K : Act → World → Prop} {Q : Exit → Act → World → Prop} {E : Prop}
    (hg : o.guard = none) (s x : Operand) (t : TypeId) (hop : o.op = Op.call { callee := Callee.builtin Builtin.append, args := #[s, x], argTypes := #[t, t] })
    (base : Nat) (e : TypeId) (ht : P.underlying t = some (.slice e)) (hinfo : (P.info? e).map (fun i => (i.zero, i.size, i.bytes)) = some (some col0.val, 4, 40))
    (v : Value) (cs : List Col) (hs : a.eval s = v) (hown : OwnC e w base v cs)
    (g : Nat) (m : Nat) (c : Col) (hx : a.eval x = .slice (some ⟨g, 0, none⟩) 1 m) (hcell : ∀ (j : Nat) u, c.cells[j]? = some u → w.cell? ⟨g, j, none⟩ = some u)
    (hlen : cs.length < 1000000) (hbase : base ≤ w.heap.size)
    (hK : ∀ v' w', OwnC e w' base v' (cs ++ [c]) → Below base w w' → w.grownBy w' v.ownBlock → (v'.ownBlock = v.ownBlock ∨ v'.ownBlock = some w.heap.size) → K (a.put o.dst v') w') :
    if Region.wanted o (yielded ops a.tmps) = true then Oper.wp P o a w K Q else E := by
  have hw : Region.wanted o (yielded ops a.tmps) = true := by simp [Region.wanted, hg]
  rw [if_pos hw]
  obtain ⟨i, hi, hz, hsz, hby⟩ := info_parts hinfo
  obtain ⟨v', w', hrun, r1, r2, _, r4⟩ := run_append_own_at (P := P) (w := w) base t o.type e i col0.val 4 40 ht hi hz hsz hby rfl (by decide) v cs.length (colCells cs) hown ⟨g, 0, none⟩ 1 m c.cells rfl (fun j u hj => by rw [addr0]; exact hcell j u hj) (cells_oneC c)
    (by unfold maxLen; omega) (by omega) hbase
  unfold Oper.wp
  simp [execOp, hop, resolve, invoke, builtin, hs, hx, hrun, Result.andThen]
  refine hK v' w' ?_ ((Below.refl _ _).grown r2 hbase (fun k hk => (OwnC.lt hown k hk).1)) r2 r4
  unfold OwnC
  rw [colCells_app, List.length_append]
  show w'.ownsRow base e 4 v' (cs.length + 1) (colCells cs ++ colCells [c])
  rw [show colCells [c] = c.cells from by unfold colCells; simp]
  exact r1
end Go.SC
namespace Go.Proofs.YtfkdenlpailmeaaDoor
open Go.RowKit Go.VB Go.VL Go.SC Go.ChangeShapes Go.WideShapes Go.ChangeAt
set_option linter.constructorNameAsVariable false
set_option maxRecDepth 100000 in
set_option maxHeartbeats 16000000 in
theorem gen_walk (v : Value) (zl : List Int) (how q x : Int) (W : World) (rl : RdI .i64 W W.heap.size v zl) (wl : ∀ z ∈ zl, (Lit.int .i64 z).wf = true) (wh : (Lit.int .i64 how).wf = true) (wq : (Lit.int .i64 q).wf = true) (wx : (Lit.int .i64 x).wf = true) :
    Calls Tryd.prog 5 #[v, .int .i64 how, .int .i64 q, .int .i64 x] W (RetB (.bool true) W) := by
  have hAw := fun w => Lib.hid (awake7_any w)
  have HK := Lib.hid (kSch_any W v zl rl wl)
  obtain ⟨A, cap, rfl, _⟩ := rl
  clear wl
  go_enter Tryd.func5, Tryd.ntmps5
  go_wp2_with fail
  refine HK.out.mono ?_
  rintro e w1 ⟨hb1, v1, cs, key, rfl, ho1, hko⟩
  have hchk := kok_chk hko
  have hR1 := ho1.read
  have hl1 := hko.1
  have hl4 := hko.2.1
  obtain ⟨ad1, cap1, hv1, had1⟩ : ∃ ad cap, v1 = .slice (some ad) cs.length cap ∧ ad.block < w1.heap.size := by
    obtain ⟨A1, c1, rfl, _, _, hr⟩ := hR1
    obtain ⟨ad, h1, h2, _⟩ := hr 0 (by omega)
    exact ⟨ad, c1, by rw [h1], h2⟩
  subst hv1
  clear HK ho1 hko
  have hal : Below w1.heap.size w1 (w1.alloc (.cells #[.slice (some ad1) cs.length cap1, .int .i64 key] 24)) := (Below.refl _ _).alloc (Nat.le_refl _) _
  have hV := Var2.new w1 (.slice (some ad1) cs.length cap1) (.int .i64 key) 24
  have hR2 := hR1.step hal
  have hB := bel_trans hb1 hal
  clear hb1 hR1 hal
  have HCK := fun w h => Lib.hid (check_any cs (.slice (some ad1) cs.length cap1) key w h)
  rw [hchk] at HCK
  have HA1 := fun w h => Lib.hid (agrees_any cs (.slice (some ad1) cs.length cap1) key ⟨#[98]⟩ w h)
  have HA2 := fun ds v k w h => Lib.hid (agrees_any ds v k ⟨#[98]⟩ w h)
  clear hchk
  have HPk := fun z n w h1 h2 h3 => Lib.hid (pick_at z n w h1 h2 h3)
  go_upto_region 2 with fail
  generalize w1.heap.size = g5 at *
  generalize w1.alloc (.cells #[.slice (some ad1) cs.length cap1, .int .i64 key] 24) = w3 at *
  have HVV := fun (w : World) (hb : Below w3.heap.size w3 w) => Lib.hid (hV.step hb)
  have HRR := fun (w : World) (hb : Below w3.heap.size w3 w) => Lib.hid (hR2.below hb)
  have bd : Below w3.heap.size w3 w3.drew := (Below.refl _ _).drew
  have ba : Below w3.heap.size w3 (w3.alloc (.cells #[.slice none 0 0, .int .i64 0] 24)).drew := ((Below.refl _ _).alloc (Nat.le_refl _) _).drew
  have HC0 := Lib.hid (rd_cells (hR2.below bd))
  have HC1 := Lib.hid (rd_cells (hR2.below ba))
  have hN1 := Var2.new w3 (.slice none 0 0) (.int .i64 0) 24
  have hN2 : Var2 (w3.alloc (.cells #[.slice none 0 0, .int .i64 0] 24)).drew w3.heap.size (.slice none 0 0) (.int .i64 0) := hN1.step ((Below.refl _ _).drew)
  have hlc : (colCells cs).length = cs.length * 4 := colCells_len cs
  obtain ⟨iC, hiC, hzC, hsC, hbC⟩ := info_parts Tryd.infCol
  go_cut [10] from 12 to 95 (fun p8 w' => ∃ (b8 g8 cap8 : Nat), p8 = .pointer (some ⟨b8, 0, none⟩) ∧ Below w3.heap.size w3 w' ∧ w3.heap.size ≤ b8 ∧ w3.heap.size ≤ g8 ∧ b8 ≠ g8 ∧ cs.length ≤ cap8 ∧ cap8 ≤ maxLen ∧ Var2 w' b8 (.slice (some ⟨g8, 0, none⟩) cs.length cap8) (.int .i64 key) ∧ RowC 32 w' w3.heap.size g8 cap8 cs)
  case first =>
    have hg53 := hV.lt
    obtain ⟨l0, l1, f0, f1⟩ := id hV
    go_region_law (first
      | ((refine step_append_grows rfl (.const (.slice none 0 0)) (.tmp 15) 22 rfl 32 iC col0.val 4 40 Tryd.underlying22 hiC hzC hsC hbC rfl (by decide) none 0 0 [] rfl (fun _ => ⟨rfl, rfl⟩) rfl (fun _ h => by cases h) ad1 cs.length cap1 (colCells cs) rfl hlc (HC0.out) (colCells_one cs) (by omega) (by unfold maxLen; omega) (by omega) ?_); intro v8 w8 hown hgrow; rw [Nat.zero_add, List.nil_append] at hown; have ho8 : OwnC 32 w8 _ v8 cs := hown; obtain ⟨g8, cap8, rfl, hrow, hge, hlt8, hcc, hcm⟩ := ho8.form hl1; have hb8 := bd.trans (below_grown hgrow); have hg58 := (HVV _ hb8).out.lt; obtain ⟨l0', l1', f0', f1'⟩ := (HVV _ hb8).out)
      | ((refine step_append_grows rfl (.const (.slice none 0 0)) (.tmp 15) 22 rfl 32 iC col0.val 4 40 Tryd.underlying22 hiC hzC hsC hbC rfl (by decide) none 0 0 [] rfl (fun _ => ⟨rfl, rfl⟩) rfl (fun _ h => by cases h) ad1 cs.length cap1 (colCells cs) rfl hlc (HC1.out) (colCells_one cs) (by omega) (by unfold maxLen; omega) (by omega) ?_); intro v8 w8 hown hgrow; rw [Nat.zero_add, List.nil_append] at hown; have ho8 : OwnC 32 w8 _ v8 cs := hown; obtain ⟨g8, cap8, rfl, hrow, hge, hlt8, hcc, hcm⟩ := ho8.form hl1; have hb8 := ba.trans ((below_grown hgrow).mono ba.size); have hg58 := (HVV _ hb8).out.lt; obtain ⟨l0', l1', f0', f1'⟩ := (HVV _ hb8).out; obtain ⟨m0, m1, h0, h1⟩ := hN2.step (below_grown hgrow)))
    all_goals clear hAw HCK HA1 HA2 HVV HRR HC0 HC1 HPk
    all_goals
      go_wp2_with fail
      go_meet
      case rel => first
        | exact ⟨w8.heap.size, g8, cap8, rfl, hb8.alloc hb8.size _, hb8.size, hge, by omega, hcc, hcm, Var2.new w8 _ _ _, hrow.alloc _⟩
        | (have hz : (w3.alloc (.cells #[.slice none 0 0, .int .i64 0] 24)).drew.heap.size = w3.heap.size + 1 := by (show (w3.alloc _).heap.size = _; simp)
           rw [hz] at hge
           have hrow2 : RowC 32 w8 w3.heap.size g8 cap8 cs := OwnC.lower hrow (by rw [hz]; omega)
           exact ⟨w3.heap.size, g8, cap8, rfl, (hb8.setCell (p := ⟨w3.heap.size, 0, none⟩) (Nat.le_refl _) _).setCell (p := ⟨w3.heap.size, 1, none⟩) (Nat.le_refl _) _, Nat.le_refl _, by omega, by omega, hcc, hcm, Var2.set01 ⟨m0, m1, h0, h1⟩ _ _, (hrow2.other (by omega) _).other (by omega) _⟩)
  case rest =>
    obtain ⟨b8, g8, cap8, rfl, hb, hb8, hg8, hbg, hcc, hcm, hV8, hrow⟩ := hcut
    clear bd ba HC0 HC1 hN1 hN2 hlc hiC hzC hsC hbC hR2
    unfold maxLen at hcm
    have HPq := fun w => Lib.hid (HPk q (cs.length : Int) w wq (by omega) (by omega)).out
    obtain ⟨p0, p1⟩ := pickN_bd q (n := (cs.length : Int)) (by omega)
    generalize pickN q (cs.length : Int) = p at *
    obtain ⟨p, rfl⟩ := Int.eq_ofNat_of_zero_le p0
    have hp : p < cs.length := by omega
    have HPh := fun w => Lib.hid (HPk how 6 w wh (by decide) (by decide)).out
    obtain ⟨s0, s1⟩ := pickN_bd how (n := 6) (by decide)
    generalize pickN how 6 = h at *
    clear wq wh p0 p1
    obtain ⟨k0, k1, h0, h1⟩ := id hV8
    go_wp2_with fail
    go_quiet (first | (go_at_call 16; refine quiet7 (HPq _).out))
    clear k0 k1 h0 h1
    have hq := Go.below_drewN (Below.refl wc.heap.size wc) nq
    replace hb := Go.below_drewN hb nq
    replace hV8 := hV8.step hq
    replace hrow := hrow.below hq
    clear hq
    generalize wc.drewN nq = w4 at *
    clear wc HPq
    go_wp2_with fail
    refine (HPh _).out.mono ?_
    rintro e w' ⟨rfl, rfl⟩
    clear HPh
    have hx0 := hrow.nameAt hp
    obtain ⟨hx1, hx2⟩ := hrow.fields hp
    have hff := fun n => Lib.hid (hrow.frozenAt n)
    have hg8lt : g8 < w4.heap.size := World.block_lt_of_cell? w4 _ hx0
    have hh : h = 0 ∨ h = 1 ∨ h = 2 ∨ h = 3 ∨ h = 4 ∨ h = 5 := by omega
    rcases hh with rfl | rfl | rfl | rfl | rfl | rfl
    · have HPx := fun w => Lib.hid (HPk x 8 w wx (by decide) (by decide)).out
      obtain ⟨y0, y1⟩ := pickN_bd x (n := 8) (by decide)
      generalize pickN x 8 = y at *
      have hf0 := (hff (p * 4)).out
      clear hx1 hx2 hff wx HPk
      have hy : y = 0 ∨ y = 1 ∨ y = 2 ∨ y = 3 ∨ y = 4 ∨ y = 5 ∨ y = 6 ∨ y = 7 := by omega
      have HT : ∀ NM o w10, Below ((w4.setCell ⟨g8, p * 4, none⟩ (.string NM)).alloc o).heap.size ((w4.setCell ⟨g8, p * 4, none⟩ (.string NM)).alloc o) w10 → Hid (Below w3.heap.size w3 w10 ∧ Var2 w10 b8 (.slice (some ⟨g8, 0, none⟩) cs.length cap8) (.int .i64 key) ∧ RdC w10 w10.heap.size (.slice (some ⟨g8, 0, none⟩) cs.length cap8) (cs.set p ⟨NM, (cs.getD p col0).ty, (cs.getD p col0).sc, (cs.getD p col0).nu⟩)) := fun NM o w10 hb10 => by
        have hrow5 : RowC 32 (w4.setCell ⟨g8, p * 4, none⟩ (.string NM)) w3.heap.size g8 cap8 (cs.set p ⟨NM, (cs.getD p col0).ty, (cs.getD p col0).sc, (cs.getD p col0).nu⟩) := hrow.store p 0 (.string NM) ⟨NM, (cs.getD p col0).ty, (cs.getD p col0).sc, (cs.getD p col0).nu⟩ hp (by decide) rfl
        have hV5 := hV8.other2 (c := g8) (i := p * 4) (u := .string NM) hbg
        have hb5 : Below w3.heap.size w3 (w4.setCell ⟨g8, p * 4, none⟩ (.string NM)) := hb.setCell (p := ⟨g8, p * 4, none⟩) hg8 _
        have hb6 := hb5.alloc hb5.size o
        exact Lib.hid ⟨hb6.trans (hb10.mono hb6.size), (hV5.step ((Below.refl _ _).alloc (Nat.le_refl _) o)).step hb10, RdC.step (RowC.rd (hrow5.alloc o) List.length_set) hb10⟩
      clear hrow hV8
      rcases hy with rfl | rfl | rfl | rfl | rfl | rfl | rfl | rfl
      all_goals
        go_wp2_with fail
        refine (HPx _).out.mono ?_
        rintro e w' ⟨rfl, rfl⟩
        clear HPx
        go_wp2_with fail
        refine (hAw _).out.mono ?_
        rintro e w10 ⟨rfl, hb10⟩
        obtain ⟨hbT, hVT, hRT⟩ := (HT _ _ _ hb10).out
        have hR9' : RdC w10 w10.heap.size (.slice (some ad1) cs.length cap1) cs := (HRR _ hbT).out.more hbT.size
        have hV9s := (HVV _ hbT).out
        have hB9 : Below W.heap.size W w10 := bel_trans hB hbT
        clear HRR HVV hbT hb10 HT
        obtain ⟨l0, l1, _, _⟩ := id hV9s
        go_wp2_with fail
        clear l0 l1
        refine (HCK _ hR9').out.mono ?_
        rintro e w11 ⟨rfl, hb11⟩
        replace hB9 := bel_trans hB9 hb11
        replace hVT := hVT.step hb11
        replace hV9s := hV9s.step hb11
        replace hRT := hRT.step hb11
        replace hR9' := hR9'.step hb11
        clear hb11
        obtain ⟨l0, l1, _, _⟩ := id hV9s
        go_wp2_with fail
        clear l0 l1
        refine (HA1 _ hR9').out.mono ?_
        rintro e w12 ⟨rfl, hb12⟩
        replace hB9 := bel_trans hB9 hb12
        replace hVT := hVT.step hb12
        replace hRT := hRT.step hb12
        clear hb12 hR9' hV9s
        obtain ⟨l0, l1, _, _⟩ := id hVT
        have hAx := Lib.hid (HA2 _ _ (key) _ hRT).out
        go_wp2_with fail
        refine hAx.out.mono ?_
        rintro e w13 ⟨rfl, hb13⟩
        go_wp2_with fail
        go_ret
        exact RetB.mk rfl (bel_trans hB9 hb13)
    · have HPx := fun w => Lib.hid (HPk x 8 w wx (by decide) (by decide)).out
      obtain ⟨y0, y1⟩ := pickN_bd x (n := 8) (by decide)
      generalize pickN x 8 = y at *
      have hf0 := (hff (p * 4 + 1)).out
      have hw : IntKind.i64.wrap (y - 1) = y - 1 := IntWalk.i64_in _ ⟨by omega, by omega⟩
      have hrow9 : RowC 32 (w4.setCell ⟨g8, p * 4 + 1, none⟩ (.int .i64 (y - 1))) w3.heap.size g8 cap8 (cs.set p ⟨(cs.getD p col0).nm, y - 1, (cs.getD p col0).sc, (cs.getD p col0).nu⟩) := hrow.store p 1 (.int .i64 (y - 1)) ⟨(cs.getD p col0).nm, y - 1, (cs.getD p col0).sc, (cs.getD p col0).nu⟩ hp (by decide) rfl
      have hV9 := hV8.other2 (c := g8) (i := p * 4 + 1) (u := .int .i64 (y - 1)) hbg
      have hb9 : Below w3.heap.size w3 (w4.setCell ⟨g8, p * 4 + 1, none⟩ (.int .i64 (y - 1))) := hb.setCell (p := ⟨g8, p * 4 + 1, none⟩) hg8 _
      have HT := fun w10 (hb10 : Below (w4.setCell ⟨g8, p * 4 + 1, none⟩ (.int .i64 (y - 1))).heap.size (w4.setCell ⟨g8, p * 4 + 1, none⟩ (.int .i64 (y - 1))) w10) => Lib.hid (show Below w3.heap.size w3 w10 ∧ Var2 w10 b8 (.slice (some ⟨g8, 0, none⟩) cs.length cap8) (.int .i64 key) ∧ RdC w10 w10.heap.size (.slice (some ⟨g8, 0, none⟩) cs.length cap8) (cs.set p ⟨(cs.getD p col0).nm, y - 1, (cs.getD p col0).sc, (cs.getD p col0).nu⟩) from ⟨hb9.trans (hb10.mono hb9.size), hV9.step hb10, RdC.step (RowC.rd hrow9 (List.length_set)) hb10⟩)
      clear hff wx HPk hrow hV8 hrow9 hV9 hb9 hx0 hx2
      go_wp2_with fail
      refine (HPx _).out.mono ?_
      rintro e w' ⟨rfl, rfl⟩
      clear HPx
      go_wp2_with fail
      refine (hAw _).out.mono ?_
      rintro e w10 ⟨rfl, hb10⟩
      obtain ⟨hbT, hVT, hRT⟩ := (HT _ hb10).out
      have hR9' : RdC w10 w10.heap.size (.slice (some ad1) cs.length cap1) cs := (HRR _ hbT).out.more hbT.size
      have hV9s := (HVV _ hbT).out
      have hB9 : Below W.heap.size W w10 := bel_trans hB hbT
      clear HRR HVV hbT hb10 HT
      obtain ⟨l0, l1, _, _⟩ := id hV9s
      go_wp2_with fail
      clear l0 l1
      refine (HCK _ hR9').out.mono ?_
      rintro e w11 ⟨rfl, hb11⟩
      replace hB9 := bel_trans hB9 hb11
      replace hVT := hVT.step hb11
      replace hV9s := hV9s.step hb11
      replace hRT := hRT.step hb11
      replace hR9' := hR9'.step hb11
      clear hb11
      obtain ⟨l0, l1, _, _⟩ := id hV9s
      go_wp2_with fail
      clear l0 l1
      refine (HA1 _ hR9').out.mono ?_
      rintro e w12 ⟨rfl, hb12⟩
      replace hB9 := bel_trans hB9 hb12
      replace hVT := hVT.step hb12
      replace hRT := hRT.step hb12
      clear hb12 hR9' hV9s
      obtain ⟨l0, l1, _, _⟩ := id hVT
      have hAx := Lib.hid (HA2 _ _ (key) _ hRT).out
      go_wp2_with fail
      refine hAx.out.mono ?_
      rintro e w13 ⟨rfl, hb13⟩
      go_wp2_with fail
      go_ret
      exact RetB.mk rfl (bel_trans hB9 hb13)
    · have HPx := fun w => Lib.hid (HPk x 22 w wx (by decide) (by decide)).out
      obtain ⟨y0, y1⟩ := pickN_bd x (n := 22) (by decide)
      generalize pickN x 22 = y at *
      have hf0 := (hff (p * 4 + 2)).out
      have hw : IntKind.i64.wrap (y - 1) = y - 1 := IntWalk.i64_in _ ⟨by omega, by omega⟩
      have hrow9 : RowC 32 (w4.setCell ⟨g8, p * 4 + 2, none⟩ (.int .i64 (y - 1))) w3.heap.size g8 cap8 (cs.set p ⟨(cs.getD p col0).nm, (cs.getD p col0).ty, y - 1, (cs.getD p col0).nu⟩) := hrow.store p 2 (.int .i64 (y - 1)) ⟨(cs.getD p col0).nm, (cs.getD p col0).ty, y - 1, (cs.getD p col0).nu⟩ hp (by decide) rfl
      have hV9 := hV8.other2 (c := g8) (i := p * 4 + 2) (u := .int .i64 (y - 1)) hbg
      have hb9 : Below w3.heap.size w3 (w4.setCell ⟨g8, p * 4 + 2, none⟩ (.int .i64 (y - 1))) := hb.setCell (p := ⟨g8, p * 4 + 2, none⟩) hg8 _
      have HT := fun w10 (hb10 : Below (w4.setCell ⟨g8, p * 4 + 2, none⟩ (.int .i64 (y - 1))).heap.size (w4.setCell ⟨g8, p * 4 + 2, none⟩ (.int .i64 (y - 1))) w10) => Lib.hid (show Below w3.heap.size w3 w10 ∧ Var2 w10 b8 (.slice (some ⟨g8, 0, none⟩) cs.length cap8) (.int .i64 key) ∧ RdC w10 w10.heap.size (.slice (some ⟨g8, 0, none⟩) cs.length cap8) (cs.set p ⟨(cs.getD p col0).nm, (cs.getD p col0).ty, y - 1, (cs.getD p col0).nu⟩) from ⟨hb9.trans (hb10.mono hb9.size), hV9.step hb10, RdC.step (RowC.rd hrow9 (List.length_set)) hb10⟩)
      clear hff wx HPk hrow hV8 hrow9 hV9 hb9 hx0 hx1
      go_wp2_with fail
      refine (HPx _).out.mono ?_
      rintro e w' ⟨rfl, rfl⟩
      clear HPx
      go_wp2_with fail
      refine (hAw _).out.mono ?_
      rintro e w10 ⟨rfl, hb10⟩
      obtain ⟨hbT, hVT, hRT⟩ := (HT _ hb10).out
      have hR9' : RdC w10 w10.heap.size (.slice (some ad1) cs.length cap1) cs := (HRR _ hbT).out.more hbT.size
      have hV9s := (HVV _ hbT).out
      have hB9 : Below W.heap.size W w10 := bel_trans hB hbT
      clear HRR HVV hbT hb10 HT
      obtain ⟨l0, l1, _, _⟩ := id hV9s
      go_wp2_with fail
      clear l0 l1
      refine (HCK _ hR9').out.mono ?_
      rintro e w11 ⟨rfl, hb11⟩
      replace hB9 := bel_trans hB9 hb11
      replace hVT := hVT.step hb11
      replace hV9s := hV9s.step hb11
      replace hRT := hRT.step hb11
      replace hR9' := hR9'.step hb11
      clear hb11
      obtain ⟨l0, l1, _, _⟩ := id hV9s
      go_wp2_with fail
      clear l0 l1
      refine (HA1 _ hR9').out.mono ?_
      rintro e w12 ⟨rfl, hb12⟩
      replace hB9 := bel_trans hB9 hb12
      replace hVT := hVT.step hb12
      replace hRT := hRT.step hb12
      clear hb12 hR9' hV9s
      obtain ⟨l0, l1, _, _⟩ := id hVT
      have hAx := Lib.hid (HA2 _ _ (key) _ hRT).out
      go_wp2_with fail
      refine hAx.out.mono ?_
      rintro e w13 ⟨rfl, hb13⟩
      go_wp2_with fail
      go_ret
      exact RetB.mk rfl (bel_trans hB9 hb13)
    · have HPx := fun w => Lib.hid (HPk x 7 w wx (by decide) (by decide)).out
      obtain ⟨y0, y1⟩ := pickN_bd x (n := 7) (by decide)
      generalize pickN x 7 = y at *
      have hw : IntKind.i64.wrap (y - 1) = y - 1 := IntWalk.i64_in _ ⟨by omega, by omega⟩
      have hrow9 : RowC 32 (w4.setCell ⟨b8, 1, none⟩ (.int .i64 (y - 1))) w3.heap.size g8 cap8 cs := hrow.other hbg _
      have hV9 := hV8.set1s (.int .i64 (y - 1))
      have hb9 : Below w3.heap.size w3 (w4.setCell ⟨b8, 1, none⟩ (.int .i64 (y - 1))) := hb.setCell (p := ⟨b8, 1, none⟩) hb8 _
      have HT := fun w10 (hb10 : Below (w4.setCell ⟨b8, 1, none⟩ (.int .i64 (y - 1))).heap.size (w4.setCell ⟨b8, 1, none⟩ (.int .i64 (y - 1))) w10) => Lib.hid (show Below w3.heap.size w3 w10 ∧ Var2 w10 b8 (.slice (some ⟨g8, 0, none⟩) cs.length cap8) (.int .i64 (y - 1)) ∧ RdC w10 w10.heap.size (.slice (some ⟨g8, 0, none⟩) cs.length cap8) (cs) from ⟨hb9.trans (hb10.mono hb9.size), hV9.step hb10, RdC.step (RowC.rd hrow9 (rfl)) hb10⟩)
      obtain ⟨k0, k1, h0, h1⟩ := id hV8
      clear hff wx HPk hrow hV8 hrow9 hV9 hb9 hx0 hx1 hx2
      go_wp2_with fail
      refine (HPx _).out.mono ?_
      rintro e w' ⟨rfl, rfl⟩
      clear HPx
      go_wp2_with fail
      refine (hAw _).out.mono ?_
      rintro e w10 ⟨rfl, hb10⟩
      obtain ⟨hbT, hVT, hRT⟩ := (HT _ hb10).out
      have hR9' : RdC w10 w10.heap.size (.slice (some ad1) cs.length cap1) cs := (HRR _ hbT).out.more hbT.size
      have hV9s := (HVV _ hbT).out
      have hB9 : Below W.heap.size W w10 := bel_trans hB hbT
      clear HRR HVV hbT hb10 HT
      obtain ⟨l0, l1, _, _⟩ := id hV9s
      go_wp2_with fail
      clear l0 l1
      refine (HCK _ hR9').out.mono ?_
      rintro e w11 ⟨rfl, hb11⟩
      replace hB9 := bel_trans hB9 hb11
      replace hVT := hVT.step hb11
      replace hV9s := hV9s.step hb11
      replace hRT := hRT.step hb11
      replace hR9' := hR9'.step hb11
      clear hb11
      obtain ⟨l0, l1, _, _⟩ := id hV9s
      go_wp2_with fail
      clear l0 l1
      refine (HA1 _ hR9').out.mono ?_
      rintro e w12 ⟨rfl, hb12⟩
      replace hB9 := bel_trans hB9 hb12
      replace hVT := hVT.step hb12
      replace hRT := hRT.step hb12
      clear hb12 hR9' hV9s
      obtain ⟨l0, l1, _, _⟩ := id hVT
      have hAx := Lib.hid (HA2 _ _ (y - 1) _ hRT).out
      go_wp2_with fail
      refine hAx.out.mono ?_
      rintro e w13 ⟨rfl, hb13⟩
      go_wp2_with fail
      go_ret
      exact RetB.mk rfl (bel_trans hB9 hb13)
    · have HPx := fun w => Lib.hid (HPk x 2 w wx (by decide) (by decide)).out
      obtain ⟨y0, y1⟩ := pickN_bd x (n := 2) (by decide)
      generalize pickN x 2 = y at *
      obtain ⟨y, rfl⟩ := Int.eq_ofNat_of_zero_le y0
      have hy : y < 2 := by omega
      have hb8lt : b8 < w4.heap.size := hV8.lt
      have hsz4 : w3.heap.size ≤ w4.heap.size := hb.size
      have HO : Hid (∃ v, Var2 w4 b8 v (.int .i64 key) ∧ OwnC 32 w4 w3.heap.size v cs ∧ v.ownBlock ≠ some b8) := Lib.hid ⟨_, hV8, hrow, fun e => hbg (Option.some.inj e).symm⟩
      clear hff wx HPk hrow hV8 hx0 hx1 hx2 y0 y1 hp hg8lt hcm hcc
      go_upto_region 14 with fail
      go_loopg [] (20 - cs.length) (fun gk wr => ∃ ds : List Col, gk + ds.length = 20 ∧ 1 ≤ ds.length ∧ ds.length ≤ 13 ∧ Below w3.heap.size w3 wr ∧ w3.heap.size ≤ wr.heap.size ∧ b8 < wr.heap.size ∧ Hid (∃ v, Var2 wr b8 v (.int .i64 key) ∧ OwnC 32 wr w3.heap.size v ds ∧ v.ownBlock ≠ some b8))
      case atStart => exact ⟨cs, by omega, hl1, by omega, hb, hsz4, hb8lt, HO⟩
      case round =>
        clear hb hsz4 hb8lt HO
        obtain ⟨ds, hgk, hd1, hd13, hb, hsz, hb8lt, HO⟩ := hrel
        obtain ⟨v, hV, hown, hob⟩ := HO.out
        obtain ⟨gg, cc, rfl, hrow, _, hglt, hcc, hcm⟩ := hown.form hd1
        unfold maxLen at hcm
        clear HO
        have hgb : gg ≠ b8 := fun e => hob (by rw [e]; rfl)
        obtain ⟨l0, l1, f0, f1⟩ := id hV
        have ew : IntKind.i64.wrap (12 + (y : Int)) = 12 + (y : Int) := IntWalk.i64_in _ ⟨by omega, by omega⟩
        go_wp2_with fail
        go_quiet (first | (go_at_call 16; refine quiet7 (HPx _).out))
        clear l0 l1 f0 f1
        have hq := Go.below_drewN (Below.refl wr.heap.size wr) nq
        replace hb := Go.below_drewN hb nq
        replace hV := hV.step hq
        replace hrow := hrow.below hq
        have hsz5 : w3.heap.size ≤ (wr.drewN nq).heap.size := Nat.le_trans hsz hq.size
        have hb85 : b8 < (wr.drewN nq).heap.size := Nat.lt_of_lt_of_le hb8lt hq.size
        clear hq hsz hb8lt hglt hown hob
        generalize wr.drewN nq = w5 at *
        clear wr
        by_cases hlt : (ds.length : Int) < 12 + (y : Int)
        · have hd : decide ((ds.length : Int) < 12 + (y : Int)) = true := decide_eq_true hlt
          have HNum := fun w => Lib.hid (num2_any ds.length w (by omega))
          have hadd := add_str (P := Tryd.prog) [122] (scL ds.length) (by have := (scL_len (n := ds.length) (by omega)).2; simp; omega)
          rw [show str [122] = ⟨#[122]⟩ from rfl] at hadd
          generalize str ([122] ++ scL ds.length) = Z at *
          generalize str (scL ds.length) = SN at *
          obtain ⟨ds', hds'⟩ : ∃ ds', ds ++ [(⟨Z, 1, 0, false⟩ : Col)] = ds' := ⟨_, rfl⟩
          have hLN : ds'.length = ds.length + 1 := by rw [← hds']; simp
          have ba : Below w5.heap.size w5 (w5.alloc (.cells #[.string Z, .int .i64 1, .int .i64 0, .bool false] 32)).drew := ((Below.refl _ _).alloc (Nat.le_refl _) _).drew
          have HOa := Lib.hid (show OwnC 32 (w5.alloc (.cells #[.string Z, .int .i64 1, .int .i64 0, .bool false] 32)).drew w3.heap.size (.slice (some ⟨gg, 0, none⟩) ds.length cc) ds from OwnC.below hrow ba)
          have HCa := Lib.hid (show ∀ (j : Nat) u, (⟨Z, 1, 0, false⟩ : Col).cells[j]? = some u → (w5.alloc (.cells #[.string Z, .int .i64 1, .int .i64 0, .bool false] 32)).drew.cell? ⟨w5.heap.size, j, none⟩ = some u from cells_newC w5 ⟨Z, 1, 0, false⟩ 32)
          have hszA : (w5.alloc (.cells #[.string Z, .int .i64 1, .int .i64 0, .bool false] 32)).drew.heap.size = w5.heap.size + 1 := by (show (w5.alloc (.cells #[.string Z, .int .i64 1, .int .i64 0, .bool false] 32)).heap.size = _; simp)
          have hsza : w3.heap.size ≤ (w5.alloc (.cells #[.string Z, .int .i64 1, .int .i64 0, .bool false] 32)).drew.heap.size := by omega
          have hVa := hV.step ba
          have hba := hb.trans (ba.mono hsz5)
          have hcl : ds.length < 1000000 := by omega
          have HLN := Lib.hid hLN
          have HDS := Lib.hid hds'
          clear hLN hds' hrow hcm hcc HPx
          obtain ⟨l0, l1, f0, f1⟩ := id hV
          go_wp2_with fail
          go_region_law (first
            | ((refine step_appC rfl (.tmp 72) (.tmp 79) 22 rfl w3.heap.size 32 Tryd.underlying22 Tryd.infCol (.slice (some ⟨gg, 0, none⟩) ds.length cc) ds rfl HOa.out w5.heap.size 1 ⟨Z, 1, 0, false⟩ rfl HCa.out hcl hsza ?_); intro v' w' ho hbb hgr hor; rw [HDS.out] at ho; obtain ⟨gg', cc', rfl, hrow', _, _, _, _⟩ := ho.form (by rw [HLN.out]; omega); have hV' := hVa.grown hgr (fun e => hgb (Option.some.inj e)); obtain ⟨l0', l1', f0', f1'⟩ := id hV')
            | (refine step_callRet rfl 17 (.tmp 75) 2 rfl _ Tryd.func17 (by kernel_rfl) (by kernel_rfl) _ (HNum _).out ?_))
          all_goals
            go_wp2_with fail
            have hbg' : b8 ≠ gg' := fun e => by
              rcases hor with h | h
              · have h2 : gg' = gg := Option.some.inj h
                omega
              · have h2 : gg' = (w5.alloc (.cells #[.string Z, .int .i64 1, .int .i64 0, .bool false] 32)).drew.heap.size := Option.some.inj h
                rw [hszA] at h2
                omega
            go_roundg (gk - 1)
            case measure => omega
            case rel => exact ⟨ds', by rw [HLN.out]; omega, by rw [HLN.out]; omega, by rw [HLN.out]; omega, (hba.trans hbb).setCell (p := ⟨b8, 0, none⟩) hb8 _, by rw [World.size_setCell]; have := hbb.size; omega, by rw [World.size_setCell]; have := hbb.size; omega, Lib.hid ⟨_, hV'.set00 _, hrow'.other hbg' _, fun e => hbg' (Option.some.inj e).symm⟩⟩
        · have hd : decide ((ds.length : Int) < 12 + (y : Int)) = false := decide_eq_false hlt
          have HT := fun w10 (hb10 : Below w5.heap.size w5 w10) => Lib.hid (show Below w3.heap.size w3 w10 ∧ Var2 w10 b8 (.slice (some ⟨gg, 0, none⟩) ds.length cc) (.int .i64 key) ∧ RdC w10 w10.heap.size (.slice (some ⟨gg, 0, none⟩) ds.length cc) ds from ⟨hb.trans (hb10.mono hsz5), hV.step hb10, RdC.step (RowC.rd hrow rfl) hb10⟩)
          clear HPx hV hrow hcm hcc hb hsz5 hb85 hgk hd1 hd13 hgb
          go_wp2_with fail
          refine (hAw _).out.mono ?_
          rintro e w10 ⟨rfl, hb10⟩
          obtain ⟨hbT, hVT, hRT⟩ := (HT _ hb10).out
          have hR9' : RdC w10 w10.heap.size (.slice (some ad1) cs.length cap1) cs := (HRR _ hbT).out.more hbT.size
          have hV9s := (HVV _ hbT).out
          have hB9 : Below W.heap.size W w10 := bel_trans hB hbT
          clear HRR HVV hbT hb10 HT
          obtain ⟨l0, l1, _, _⟩ := id hV9s
          go_wp2_with fail
          clear l0 l1
          refine (HCK _ hR9').out.mono ?_
          rintro e w11 ⟨rfl, hb11⟩
          replace hB9 := bel_trans hB9 hb11
          replace hVT := hVT.step hb11
          replace hV9s := hV9s.step hb11
          replace hRT := hRT.step hb11
          replace hR9' := hR9'.step hb11
          clear hb11
          obtain ⟨l0, l1, _, _⟩ := id hV9s
          go_wp2_with fail
          clear l0 l1
          refine (HA1 _ hR9').out.mono ?_
          rintro e w12 ⟨rfl, hb12⟩
          replace hB9 := bel_trans hB9 hb12
          replace hVT := hVT.step hb12
          replace hRT := hRT.step hb12
          clear hb12 hR9' hV9s
          obtain ⟨l0, l1, _, _⟩ := id hVT
          have hAx := Lib.hid (HA2 _ _ (key) _ hRT).out
          go_wp2_with fail
          refine hAx.out.mono ?_
          rintro e w13 ⟨rfl, hb13⟩
          go_wp2_with fail
          go_ret
          exact RetB.mk rfl (bel_trans hB9 hb13)
    · have hrow9 := hrow
      have hV9 := hV8
      have hb9 := hb
      have HT := fun w10 (hb10 : Below w4.heap.size w4 w10) => Lib.hid (show Below w3.heap.size w3 w10 ∧ Var2 w10 b8 (.slice (some ⟨g8, 0, none⟩) cs.length cap8) (.int .i64 key) ∧ RdC w10 w10.heap.size (.slice (some ⟨g8, 0, none⟩) cs.length cap8) (cs) from ⟨hb9.trans (hb10.mono hb9.size), hV9.step hb10, RdC.step (RowC.rd hrow9 (rfl)) hb10⟩)
      clear hff wx HPk hrow hV8 hrow9 hV9 hb9 hx0 hx1 hx2
      go_wp2_with fail
      refine (hAw _).out.mono ?_
      rintro e w10 ⟨rfl, hb10⟩
      obtain ⟨hbT, hVT, hRT⟩ := (HT _ hb10).out
      have hR9' : RdC w10 w10.heap.size (.slice (some ad1) cs.length cap1) cs := (HRR _ hbT).out.more hbT.size
      have hV9s := (HVV _ hbT).out
      have hB9 : Below W.heap.size W w10 := bel_trans hB hbT
      clear HRR HVV hbT hb10 HT
      obtain ⟨l0, l1, _, _⟩ := id hV9s
      go_wp2_with fail
      clear l0 l1
      refine (HCK _ hR9').out.mono ?_
      rintro e w11 ⟨rfl, hb11⟩
      replace hB9 := bel_trans hB9 hb11
      replace hVT := hVT.step hb11
      replace hV9s := hV9s.step hb11
      replace hRT := hRT.step hb11
      replace hR9' := hR9'.step hb11
      clear hb11
      obtain ⟨l0, l1, _, _⟩ := id hV9s
      go_wp2_with fail
      clear l0 l1
      refine (HA1 _ hR9').out.mono ?_
      rintro e w12 ⟨rfl, hb12⟩
      replace hB9 := bel_trans hB9 hb12
      replace hVT := hVT.step hb12
      replace hRT := hRT.step hb12
      clear hb12 hR9' hV9s
      obtain ⟨l0, l1, _, _⟩ := id hVT
      have hAx := Lib.hid (HA2 _ _ (key) _ hRT).out
      go_wp2_with fail
      refine hAx.out.mono ?_
      rintro e w13 ⟨rfl, hb13⟩
      go_wp2_with fail
      go_ret
      exact RetB.mk rfl (bel_trans hB9 hb13)
set_option maxRecDepth 100000 in
set_option maxHeartbeats 4000000 in
theorem schemaGenerated_lifted (os : Os) (started : os.Started) (H : Type) (enc : TypeId × Value → H) :
    ReturnsInHanded {} Tryd.checked os 5 .any (fun w args => (Rows.schemaGeneratedSpec.pre enc Tryd.prog Tryd.f5 Rows.schemaGeneratedRow.domain false w args ∧ laidMetH Tryd.prog Rows.schemaGeneratedRow.laid w) ∧ sizedMet enc Tryd.prog Tryd.f5 (OpenSpec.ofChange Rows.schemaGeneratedSpec) false w args) (Rows.schemaGeneratedSpec.post enc Tryd.prog Tryd.f5 false true false false) := by
  refine laid_lifted (C := Tryd.checked) (tb := 4) (laid := Rows.schemaGeneratedRow.laid) started Tryd.own Tryd.laidOut (by kernel_rfl) Tryd.func5
    (ChangeSpec.witness_shaped (enc := enc) (C := Tryd.checked) (os := os) (X := fun w _ => laidMetH Tryd.prog Rows.schemaGeneratedRow.laid w) false (World.laidAll Tryd.prog os Rows.schemaGeneratedRow.laid) #[.slice none 0 0, .int .i64 0, .int .i64 0, .int .i64 0] 8 (World.laidAll_os _ _ _) (World.shaped_of_ZipB (by kernel_rfl) (by kernel_rfl)) (by kernel_rfl) (by kernel_rfl) (by kernel_rfl) (by rw [MakeChecks.laidMetH_plain _ _ _ (by kernel_rfl)]; exact laidMet_laidAll _ (by kernel_rfl) (by kernel_rfl)))
    rfl rfl Tryd.underlying4 (by kernel_rfl) (fun ds h => ?_) (fun W base args ds p hval0 hA0 hsz0 hlt hL => ?_)
  · have h' : ds.length = Tryd.f5.params.toList.length := h
    rw [Tryd.params5] at h'
    match ds, h' with
    | [_, _, _, _], _ => rfl
  · have hval : ∀ (j : Nat) t v, Tryd.f5.params[j]? = some t → args[j]? = some v → Value.okWide Tryd.prog W .any base t v := hval0
    have hA : DataW.TrodAll enc Tryd.prog W 0 (fun _ => true) true Tryd.f5.params.toList args.toList ds p := hA0
    have hsz : (DataW.weightsEach Tryd.prog Tryd.f5.params.toList ds).all (· ≤ reachBytes) = true := hsz0
    rw [Tryd.params5] at hA hval hsz
    clear hA0 hval0 hsz0
    have ht : TabOk W := tab_of_laid hL
    clear hL
    obtain ⟨v0, vs0, d0, ds0, p0, q0, hargs, rfl, rfl, h0, r0⟩ := trodAll_cons hA
    obtain ⟨v1, vs1, d1, ds1, p1, q1, rfl, rfl, rfl, h1, r1⟩ := trodAll_cons r0
    obtain ⟨v2, vs2, d2, ds2, p2, q2, rfl, rfl, rfl, h2, r2⟩ := trodAll_cons r1
    obtain ⟨v3, vs3, d3, ds3, p3, q3, rfl, rfl, rfl, h3, r3⟩ := trodAll_cons r2
    obtain ⟨rfl, rfl, rfl⟩ := trodAll_nil r3
    obtain rfl : args = #[v0, v1, v2, v3] := by cases args; simp_all
    obtain ⟨zl, rl, wl, bl⟩ := open_rdI Tryd.underlying37 Tryd.underlying3 (by kernel_rfl) (hval 0 37 v0 rfl rfl) h0 hsz (j := 0) rfl rfl
    obtain ⟨how, rfl, rfl, rfl, whow⟩ := open_int Tryd.underlying3 (hval 1 3 v1 rfl rfl) h1
    obtain ⟨q, rfl, rfl, rfl, wq⟩ := open_int Tryd.underlying3 (hval 2 3 v2 rfl rfl) h2
    obtain ⟨x, rfl, rfl, rfl, wx⟩ := open_int Tryd.underlying3 (hval 3 3 v3 rfl rfl) h3
    change Calls Tryd.prog 5 #[v0, .int .i64 how, .int .i64 q, .int .i64 x] W (RetB (.bool true) W)
    exact gen_walk v0 zl how q x W rl wl whow wq wx
theorem schemaGenerated_holds : Rows.SchemaGeneratedSaid :=
  OpenClaim.holds_of_wide 5 Tryd.f5 rfl rfl rfl rfl rfl rfl rfl ⟨rfl, rfl, rfl, rfl, rfl⟩ rfl rfl rfl rfl rfl (by kernel_rfl) Tryd.func5 (by kernel_rfl)
    (of_decide_eq_true (by kernel_rfl)) (by unfold Func.isWrapper; first | (rw [if_pos (by decide +kernel)]; kernel_rfl) | (rw [if_neg (by decide +kernel)]; exact ⟨rfl, rfl⟩))
    (fun os started H enc _ => schemaGenerated_lifted os started H enc)
theorem schemaGenerated_card : Rows.SchemaGeneratedCardSaid :=
  Claim7.holds_tied_plain_at .later [] [.data, .data, .data] true Rows.schemaGeneratedCard.stood.harness false schemaGenerated_holds (fun _ h => by cases h) (by kernel_rfl) (fun _ h => by cases h) schemaGenerated_row_tie rfl ⟨rfl, rfl⟩ (by kernel_rfl) rfl
    (fun f fn hf hfn => by
      obtain rfl : f = 5 := Option.some.inj ((show Tryd.prog.funcNamed Rows.schemaGeneratedRow.func = some 5 by kernel_rfl).symm.trans hf) |>.symm
      obtain rfl : fn = Tryd.f5 := (Option.some.inj (Tryd.func5.symm.trans hfn)).symm
      exact ⟨by kernel_rfl, fun j t ht => by
        rw [Tryd.params5] at ht
        have hm : t ∈ [37, 3, 3, 3] := by simpa using Array.mem_of_getElem? ht
        have hall : ([37, 3, 3, 3].all fun u => !Tryd.prog.wantsStandIn u) = true := by kernel_rfl
        exact (show Tryd.prog.wantsStandIn t = false by simpa using List.all_eq_true.1 hall t hm)⟩)
    (by kernel_rfl)
end Go.Proofs.YtfkdenlpailmeaaDoor
