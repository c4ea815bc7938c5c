/- A statement of layer 12: ChunkRefuses. -/
import Derived.Test.YtbolbbngncnecaaCkL
import Derived.Deep.RegionLaw
namespace Go.VS
open Go.RowKit Go.VB Go.ChangeShapes Go.WideShapes Go.ChangeAt
/-- append(s, x...) of values onto a row of the call's own, as one step of a region that draws. -/
theorem step_appL {P : Program} {ops : Array Oper} {o : Oper} {a : Act} {w : World} {K : Act → World → Prop} {Q : Exit → Act → World → Prop} {E : Prop}
    (hg : o.guard = none) (s x : Operand) (t : TypeId) (hop : o.op = Op.call { callee := Callee.builtin Builtin.append, args := #[s, x], argTypes := #[t, t] })
    (base : Nat) (e : TypeId) (ht : P.underlying t = some (.slice e)) (hinfo : (P.info? e).map (fun i => (i.zero, i.size, i.bytes)) = some (some vl0.val, 3, 32))
    (v : Value) (l : List Vl) (hs : a.eval s = v) (hown : OwnL e w base v l) (B : Nat) (vx : Value) (m : List Vl) (hx : a.eval x = vx) (hr : RdL w B vx m)
    (hlen : l.length + m.length ≤ 1000000) (hbase : base ≤ w.heap.size)
    (hK : ∀ v' w', OwnL e w' base v' (l ++ m) → Below base w w' → w.grownBy w' v.ownBlock → K (a.put o.dst v') w') :
    if Region.wanted o (yielded ops a.tmps) = true then Oper.wp P o a w K Q else E := by
  have hw : Region.wanted o (yielded ops a.tmps) = true := by simp [Region.wanted, hg]
  rw [if_pos hw]
  obtain ⟨i, hi, hz, hsz, hby⟩ := info_parts hinfo
  obtain ⟨A, c, rfl, hc, hm, hcell⟩ := id hr
  rcases A with _ | ad
  · have hm' : m = [] := by
      cases m with
      | nil => rfl
      | cons y m => obtain ⟨ad, h1, _⟩ := hcell 0 y rfl; cases h1
    subst hm'
    have hrun : (Builtin.append_ #[t, t] o.type #[v, .slice none 0 c]).run P w = .ok v w := by
      rcases hown.2 with ⟨rfl, _⟩ | ⟨g, cap, cur, rfl, _, _, hnc, _⟩
      · simp [Builtin.append_, run_underlying ht, sizeOf, typeInfo, hi, Builtin.lenOf, Builtin.firstCells]
      · simp [Builtin.append_, run_underlying ht, sizeOf, typeInfo, hi, Builtin.lenOf, Builtin.firstCells, hnc, storeCells]
    unfold Oper.wp
    simp [execOp, hop, resolve, invoke, builtin, hs, hx, hrun, Result.andThen]
    refine hK v w ?_ (Below.refl _ _) (World.grownBy.refl w _)
    rw [List.append_nil]; exact hown
  · obtain ⟨v', w', hrun, r1, r2, _⟩ := run_append_own (P := P) w base t o.type e i vl0.val 3 32 ht hi hz hsz hby rfl (by decide) v l.length (vlCells l) hown ad m.length c (vlCells m) (vlCells_len m) hr.cells (vlCells_one m) (by unfold maxLen; omega) (by omega) hbase
    unfold Oper.wp
    simp [execOp, hop, resolve, invoke, builtin, hs, hx, hrun, Result.andThen]
    refine hK v' w' ?_ ((Below.refl _ _).grown r2 hbase (fun b hb => (OwnL.lt hown b hb).1)) r2
    unfold OwnL
    rw [List.length_append, vlCells_app]; exact r1
theorem RdL.cutA {w : World} {B c n : Nat} {ad : Addr} {l : List Vl} (h : RdL w B (.slice (some ad) n c) l) {i : Nat} (hc : c = i) : RdL w B (.slice (some ad) (n - i) 0) (l.drop i) := by
  obtain ⟨A', c', hv, h1, h2, _⟩ := id h
  cases hv
  have : l.drop i = [] := List.drop_eq_nil_of_le (by omega)
  rw [this]
  exact ⟨_, _, by rw [show l.length - i = 0 from by omega]; rfl, by simp, by omega, fun _ _ hi => by simp at hi⟩
theorem RdL.cutC {w : World} {B c n : Nat} {ad : Addr} {l : List Vl} (h : RdL w B (.slice (some ad) n c) l) {i : Nat} (hi : i ≤ l.length) : RdL w B (.slice (if c = i then some ad else some (ad.add (i * 3))) (n - i) (c - i)) (l.drop i) := by
  by_cases hc : c = i
  · rw [if_pos hc, show c - i = 0 by omega]; exact h.cutA hc
  · rw [if_neg hc]; exact h.tail i hi
theorem RdL.lit1F (w : World) (a : Bool) (b : Int) (c : ByteArray) (e : TypeId) : RdL (w.alloc (.cells #[.bool a, .int .i64 b, .string c] e)) (w.alloc (.cells #[.bool a, .int .i64 b, .string c] e)).heap.size (.slice (some ⟨w.heap.size, 0, none⟩) 1 1) [⟨a, b, c⟩] :=
  (RdL.lit w [⟨a, b, c⟩] 1 e (Nat.le_refl 1) (by decide)).more (by simp)
theorem RdL.lit1dF (w : World) (a : Bool) (b : Int) (c : ByteArray) (e : TypeId) : RdL (w.alloc (.cells #[.bool a, .int .i64 b, .string c] e)).drew (w.alloc (.cells #[.bool a, .int .i64 b, .string c] e)).drew.heap.size (.slice (some ⟨w.heap.size, 0, none⟩) 1 1) [⟨a, b, c⟩] :=
  (RdL.lit1F w a b c e).step (Below.refl _ _).drew
end Go.VS
namespace Go.CK
open Go.RowKit Go.VB Go.VarM Go.VS Go.VL Go.Proofs.Ytbolbbngncnecaa
theorem split3 (l : List Vl) (k : Nat) (x : Vl) : ([] ++ l.take k ++ [x]) ++ l.drop k = l.take k ++ x :: l.drop k := by simp
/-- What the law compares: the code, and whether there are bytes. -/
theorem refuses {ty : Int} {nu : Bool} {l : List Vl} {k : Nat} {x : Vl} (hT : okT ty = true) (hl : l.length ≤ 39) (hc : ∀ x ∈ l, chkV ty nu x = 0) :
    encE ty nu (l.take k ++ x :: l.drop k) = chkV ty nu x ∧ (chkV ty nu x = 0 ↔ 0 < (encS ty nu (l.take k ++ x :: l.drop k)).size) := by
  have h1 : (l.take k).length + (l.drop k).length = l.length := by rw [← List.length_append, List.take_append_drop]
  have he := encE_mid (typ := ty) (nu := nu) (v := x) hT (a := l.take k) (b := l.drop k) (by rw [List.length_append, List.length_cons]; omega) (fun y hy => hc y (List.mem_of_mem_take hy)) (fun y hy => hc y (List.mem_of_mem_drop hy))
  refine ⟨he, ?_⟩
  by_cases h0 : chkV ty nu x = 0
  · rw [encS_ok (by rw [he]; exact h0)]
    obtain ⟨j, _, _, _, hb⟩ := best_nat ty (l.take k ++ x :: l.drop k)
    have := build_len ty j (l.take k ++ x :: l.drop k)
    rw [hb, str_size]
    exact ⟨fun _ => by omega, fun _ => h0⟩
  · rw [encS_bad (by rw [he]; exact h0)]
    exact ⟨fun h => absurd h h0, fun h => absurd h (by decide)⟩
theorem refuse_facts {E z : Nat} (h : E = 0 ↔ 0 < z) : (E = 0 ∧ decide ((0 : Int) < (z : Int)) = true ∧ decide (0 < z) = true) ∨ (((E : Int) == 0) = false ∧ decide ((0 : Int) < (z : Int)) = false ∧ decide (0 < z) = false) := by
  by_cases h0 : E = 0
  · have := h.1 h0
    exact .inl ⟨h0, decide_eq_true (by omega), decide_eq_true this⟩
  · have : ¬ 0 < z := fun hz => h0 (h.2 hz)
    exact .inr ⟨beq_eq_false_iff_ne.2 (by omega), decide_eq_false (by omega), decide_eq_false this⟩
theorem pick_facts {n : Nat} (h : n ≤ 39) : wrap64 ((n : Int) + 1) = (n : Int) + 1 ∧ IntKind.i64.wrap ((n : Int) + 1) = (n : Int) + 1 := ⟨by unfold wrap64; omega, IntWalk.i64_in _ ⟨by omega, by omega⟩⟩
end Go.CK
namespace Go.Proofs.Ytbolbbngncnecaa
open Go.RowKit Go.VB Go.VarM Go.BP Go.RL Go.VS Go.VL Go.DI Go.CK Go.NU Go.KV Go.ChangeShapes Go.WideShapes Go.ChangeAt
open Go.ChangeMaps (open_string)
set_option linter.constructorNameAsVariable false
set_option maxRecDepth 100000 in
set_option maxHeartbeats 4000000 in
theorem chunkRefuses_lifted (os : Os) (started : os.Started) (H : Type) (enc : TypeId × Value → H) :
    ReturnsInHanded {} Try.checked os 8 .any (Rows.chunkRefusesSpec.pre6 enc Try.prog Try.f8 Rows.chunkRefusesRow.domain false) (Rows.chunkRefusesSpec.post enc Try.prog Try.f8 false true false false) := by
  refine law_lifted (C := Try.checked) (tb := 4) started Try.own Try.laidOut (by kernel_rfl) Try.func8
    (ChangeSpec.witness6 (enc := enc) (C := Try.checked) false ⟨#[], #[.int .i64 0, .bool false, .slice none 0 0, .int .i64 0, .agg #[.bool false, .int .i64 0, .string ⟨#[]⟩]], []⟩ 8 (by kernel_rfl) (by kernel_rfl) (by kernel_rfl) (by kernel_rfl))
    rfl rfl Try.underlying4 (by kernel_rfl) (fun ds h => ?_) (fun W base args ds p hval0 hA0 hsz0 hlt => ?_)
  · have h' : ds.length = Try.f8.params.toList.length := h
    rw [Try.params8] at h'
    match ds, h' with
    | [_, _, _, _, _], _ => rfl
  · have hval : ∀ (j : Nat) t v, Try.f8.params[j]? = some t → args[j]? = some v → Value.okWide Try.prog W .any base t v := hval0
    have hA : DataW.TrodAll enc Try.prog W 0 (fun _ => true) true Try.f8.params.toList args.toList ds p := hA0
    have hsz : (DataW.weightsEach Try.prog Try.f8.params.toList ds).all (· ≤ reachBytes) = true := hsz0
    rw [Try.params8] at hA hval hsz
    clear hA0 hval0 hsz0
    obtain ⟨v0, vs0, d0, ds0, p0, q0, hargs, rfl, rfl, h0, r0⟩ := trodAll_cons hA
    obtain ⟨v1, vs1, d1, ds1, p1, q1, rfl, rfl, rfl, h1, r1⟩ := trodAll_cons r0
    obtain ⟨v2, vs2, d2, ds2, p2, q2, rfl, rfl, rfl, h2, r2⟩ := trodAll_cons r1
    obtain ⟨v3, vs3, d3, ds3, p3, q3, rfl, rfl, rfl, h3, r3⟩ := trodAll_cons r2
    obtain ⟨v4, vs4, d4, ds4, p4, q4, rfl, rfl, rfl, h4, r4⟩ := trodAll_cons r3
    obtain ⟨rfl, rfl, rfl⟩ := trodAll_nil r4
    obtain rfl : args = #[v0, v1, v2, v3, v4] := by cases args; simp_all
    obtain ⟨t, rfl, rfl, rfl, wt⟩ := open_int Try.underlying3 (hval 0 3 v0 rfl rfl) h0
    obtain ⟨null, rfl, rfl, rfl⟩ := open_bool Try.underlying4 (hval 1 4 v1 rfl rfl) h1
    obtain ⟨zm, rm, wm, bm⟩ := open_rdI Try.underlying32 Try.underlying3 (by kernel_rfl) (hval 2 32 v2 rfl rfl) h2 hsz (j := 2) rfl rfl
    obtain ⟨at', rfl, rfl, rfl, wat'⟩ := open_int Try.underlying3 (hval 3 3 v3 rfl rfl) h3
    obtain ⟨vb, vn, vs, rfl, wvn, zvs⟩ := open_val (hval 4 43 v4 rfl rfl) h4
    change Calls Try.prog 8 #[.int .i64 t, .bool null, v2, .int .i64 at', (.agg #[.bool vb, .int .i64 vn, .string vs])] W (RetB (.bool true) W)
    clear bm zvs
    have hvb := bd_wf wvn
    have HCOL := fun w => Lib.hid (column_any t null w wt)
    have hty := pick_ty t
    have hT := okT_pick t
    generalize 1 + pickN t 5 = ty at *
    have HKV := fun w r => Lib.hid (kvals_any w v2 zm ⟨#[120]⟩ ty 0 null r wm hty)
    have HBV0 := Lib.hid ((Below.refl W.heap.size W).alloc (Nat.le_refl _) (.cells #[.bool vb, .int .i64 vn, .string vs] 43))
    have HSV := Lib.hid (show (W.alloc (.cells #[.bool vb, .int .i64 vn, .string vs] 43)).heap.size = W.heap.size + 1 by simp)
    have HVX := Lib.hid (Var3.new W (.bool vb) (.int .i64 vn) (.string vs) 43)
    have hrm0 := rm.step HBV0.out
    clear wvn rm
    go_enter Try.func8, Try.ntmps8
    go_wp2_with fail
    (with_reducible refine (HCOL _).out.mono ?_); rintro e w1 ⟨rfl, hb1⟩
    have HB1 := Lib.hid hb1
    have hba := (Below.refl w1.heap.size w1).alloc (Nat.le_refl _) (.cells #[.string ⟨#[120]⟩, .int .i64 ty, .int .i64 0, .bool null] 26)
    have HV := Lib.hid (Var4.new w1 (.string ⟨#[120]⟩) (.int .i64 ty) (.int .i64 0) (.bool null) 26)
    have HBA := Lib.hid hba
    have HSZ := Lib.hid (show (w1.alloc (.cells #[.string ⟨#[120]⟩, .int .i64 ty, .int .i64 0, .bool null] 26)).heap.size = w1.heap.size + 1 by simp)
    have HVX1 := Lib.hid ((HVX.out.step hb1).step hba)
    have hrm := (hrm0.step hb1).step hba
    clear hb1 hba wm HCOL hrm0
    go_wp2_with fail
    (with_reducible refine (HKV _ hrm).out.mono ?_); rintro e w2 ⟨vx, lx, rfl, hown, hlx, hcx, hbx, hb2⟩
    have hrx := hown.read
    obtain ⟨A, c, _, rfl, rfl, hc1, hc2⟩ := hrx.bds
    have HXR := Lib.hid hrx
    have HOWN0 := Lib.hid hown
    have HVV := Lib.hid (show ∀ w, Below w2.heap.size w2 w → Var4 w w1.heap.size (.string ⟨#[120]⟩) (.int .i64 ty) (.int .i64 0) (.bool null) ∧ Var3 w W.heap.size (.bool vb) (.int .i64 vn) (.string vs) from fun w hb => ⟨HV.out.below (bel_trans hb2 hb) (by rw [HSZ.out]; exact Nat.lt_succ_self _), (HVX1.out.step hb2).step hb⟩)
    have HB2 := Lib.hid hb2
    have HREF := Lib.hid (fun k => refuses (k := k) (x := (⟨vb, vn, vs⟩ : Vl)) hT hlx hcx)
    have HBX := Lib.hid (fun (k : Nat) (y : Vl) (hy : y ∈ lx.take k ++ (⟨vb, vn, vs⟩ : Vl) :: lx.drop k) => show -9223372036854775808 ≤ y.n ∧ y.n ≤ 9223372036854775807 from by
      rcases List.mem_append.1 hy with h | h
      · exact hbx y (List.mem_of_mem_take h)
      · rcases List.mem_cons.1 h with h | h
        · rw [h]; exact hvb
        · exact hbx y (List.mem_of_mem_drop h))
    obtain ⟨g1, g2⟩ := pick_facts (n := lx.length) (by omega)
    have HPK := fun w => Lib.hid (pick_at at' ((lx.length : Int) + 1) w wat' (by omega) (by omega))
    obtain ⟨p0, p1⟩ := pickN_bd at' (n := (lx.length : Int) + 1) (by omega)
    generalize pickN at' ((lx.length : Int) + 1) = k at *
    obtain ⟨k, rfl⟩ := Int.eq_ofNat_of_zero_le p0
    have hkn : k ≤ lx.length := by omega
    clear hown hrm HKV hb2 hrx hty hbx hcx hT p0 p1 wat'
    go_wp2_with fail
    (with_reducible refine (HPK _).out.mono ?_); rintro e w' ⟨rfl, rfl⟩
    clear HPK g1 g2
    have hk0 : (0 : Int) ≤ (k : Int) := by omega
    have hk1 : (k : Int) ≤ (lx.length : Int) := by omega
    have hk2 : (lx.length : Int) ≤ (c : Int) := by omega
    have hk3 : (k : Int) ≤ (c : Int) := by omega
    have hk4 : k ≤ c := by omega
    rcases A with _ | ad
    · have hnil : lx = [] ∧ c = 0 := by
        rcases HOWN0.out.2 with ⟨hv, hn⟩ | ⟨g, cap, cur, hv, _⟩
        · injection hv with _ _ h3
          exact ⟨List.eq_nil_of_length_eq_zero hn, h3⟩
        · cases hv
      obtain ⟨rfl, rfl⟩ := hnil
      obtain rfl : k = 0 := Nat.le_zero.1 hkn
      simp only [List.length_nil]
      have hzk : Below w2.heap.size w2 w2.drew := (Below.refl _ _).drew
      have hza := ((Below.refl w2.heap.size w2).alloc (Nat.le_refl _) (.cells #[.bool vb, .int .i64 vn, .string vs] 43)).drew
      obtain ⟨⟨c0, c1, c2, c3⟩, ⟨d0, d1, d2⟩⟩ := HVV.out w2 (Below.refl _ _)
      have HHD := Lib.hid (fun w (_ : Below w2.heap.size w2 w) => show RdL w w2.heap.size (.slice none 0 0) (([] : List Vl).take 0) from RdL.nil _ _)
      have HTL := Lib.hid (fun w (_ : Below w2.heap.size w2 w) => show RdL w w2.heap.size (.slice none 0 0) (([] : List Vl).drop 0) from RdL.nil _ _)
      have HSA := Lib.hid (show w2.heap.size + 1 ≤ (w2.alloc (.cells #[.bool vb, .int .i64 vn, .string vs] 43)).drew.heap.size from by simp)
      have HLT := Lib.hid (show RdL (w2.alloc (.cells #[.bool vb, .int .i64 vn, .string vs] 43)).drew (w2.heap.size + 1) (.slice (some ⟨w2.heap.size, 0, none⟩) 1 1) [(⟨vb, vn, vs⟩ : Vl)] from (RdL.lit w2 [⟨vb, vn, vs⟩] 1 43 (Nat.le_refl 1) (by decide)).below (Below.refl _ _).drew)
      have HLN := Lib.hid (show ([] : List Vl).length + (([] : List Vl).take 0).length ≤ 1000000 from by simp)
      have HLN2 := Lib.hid (show (([] : List Vl) ++ ([] : List Vl).take 0).length + [(⟨vb, vn, vs⟩ : Vl)].length ≤ 1000000 from by simp)
      have HLN3 := Lib.hid (show (([] : List Vl) ++ ([] : List Vl).take 0 ++ [(⟨vb, vn, vs⟩ : Vl)]).length + (([] : List Vl).drop 0).length ≤ 1000000 from by simp)
      have HBK := Lib.hid hzk; have HBK2 := Lib.hid hza
      clear hzk hza hk0 hk1 hk2 hk3 hk4
      go_wp2_with fail
      go_region_law (first
        | (show (if Region.wanted ⟨some 32, _, _, _, _, _⟩ _ = true then _ else _); refine step_appL rfl (.const (.slice none 0 0)) (.tmp 31) 27 rfl w2.heap.size 43 Try.underlying27 Try.infVal (.slice none 0 0) [] rfl (OwnL.nil _ _ _) w2.heap.size (.slice none 0 0) (([] : List Vl).take 0) rfl (HHD.out _ HBK.out) HLN.out (Nat.le_refl _) ?_; intro v3 w3 hown3 hb3 _; obtain ⟨⟨-, -, -, -⟩, ⟨f0, f1, f2⟩⟩ := HVV.out w3 (HBK.out.trans hb3); have HOWN4 := Lib.hid (hown3.alloc (.cells #[.bool vb, .int .i64 vn, .string vs] 43)); have HRD4 := Lib.hid (RdL.lit1F w3 vb vn vs 43); have HB4 := Lib.hid ((HBK.out.trans hb3).alloc hb3.size (.cells #[.bool vb, .int .i64 vn, .string vs] 43)); clear hown3 hb3)
        | (show (if Region.wanted ⟨some 32, _, _, _, _, _⟩ _ = true then _ else _); refine step_appL rfl (.const (.slice none 0 0)) (.tmp 31) 27 rfl (w2.heap.size + 1) 43 Try.underlying27 Try.infVal (.slice none 0 0) [] rfl (OwnL.nil _ _ _) w2.heap.size (.slice none 0 0) (([] : List Vl).take 0) rfl (HHD.out _ HBK2.out) HLN.out HSA.out ?_; intro v3 w3 hown3 hb3 _; have HOWN4 := Lib.hid hown3; have HRD4 := Lib.hid (HLT.out.below hb3); have HB4 := Lib.hid (HBK2.out.trans (hb3.mono (Nat.le_succ _))); have HS4 := Lib.hid (Nat.le_trans HSA.out hb3.size); clear hown3 hb3)
        | (show (if Region.wanted ⟨some 35, _, _, _, _, _⟩ _ = true then _ else _); refine step_appL rfl (.tmp 32) (.tmp 34) 27 rfl w2.heap.size 43 Try.underlying27 Try.infVal v3 ([] ++ ([] : List Vl).take 0) rfl HOWN4.out (w3.alloc (.cells #[.bool vb, .int .i64 vn, .string vs] 43)).heap.size (.slice (some ⟨w3.heap.size, 0, none⟩) 1 1) [(⟨vb, vn, vs⟩ : Vl)] rfl HRD4.out HLN2.out HB4.out.size ?_; intro v5 w5 hown5 hb5 _; have HOWN5 := Lib.hid hown5; have HB5 := Lib.hid (HB4.out.trans hb5); have HT5 := Lib.hid (HTL.out _ HB5.out); clear hown5 hb5)
        | (show (if Region.wanted ⟨some 35, _, _, _, _, _⟩ _ = true then _ else _); refine step_appL rfl (.tmp 32) (.tmp 34) 27 rfl (w2.heap.size + 1) 43 Try.underlying27 Try.infVal v3 ([] ++ ([] : List Vl).take 0) rfl HOWN4.out (w2.heap.size + 1) (.slice (some ⟨w2.heap.size, 0, none⟩) 1 1) [(⟨vb, vn, vs⟩ : Vl)] rfl HRD4.out HLN2.out HS4.out ?_; intro v5 w5 hown5 hb5 _; have HOWN5 := Lib.hid hown5; have HB5 := Lib.hid (HB4.out.trans (hb5.mono (Nat.le_succ _))); have HS5 := Lib.hid (Nat.le_trans HS4.out hb5.size); have HT5 := Lib.hid (HTL.out _ HB5.out); clear hown5 hb5)
        | (show (if Region.wanted ⟨some 39, _, _, _, _, _⟩ _ = true then _ else _); refine step_appL rfl (.tmp 35) (.tmp 38) 27 rfl w2.heap.size 43 Try.underlying27 Try.infVal v5 ([] ++ ([] : List Vl).take 0 ++ [(⟨vb, vn, vs⟩ : Vl)]) rfl HOWN5.out w2.heap.size (.slice none 0 0) (([] : List Vl).drop 0) rfl HT5.out HLN3.out HB5.out.size ?_; intro v7 w7 hown7 hb7 _; have HOWN7 := Lib.hid hown7.read; have HB7 := Lib.hid (HB5.out.trans hb7); clear hown7 hb7)
        | (show (if Region.wanted ⟨some 39, _, _, _, _, _⟩ _ = true then _ else _); refine step_appL rfl (.tmp 35) (.tmp 38) 27 rfl (w2.heap.size + 1) 43 Try.underlying27 Try.infVal v5 ([] ++ ([] : List Vl).take 0 ++ [(⟨vb, vn, vs⟩ : Vl)]) rfl HOWN5.out w2.heap.size (.slice none 0 0) (([] : List Vl).drop 0) rfl HT5.out HLN3.out HS5.out ?_; intro v7 w7 hown7 hb7 _; have HOWN7 := Lib.hid hown7.read; have HB7 := Lib.hid (HB5.out.trans (hb7.mono (Nat.le_succ _))); clear hown7 hb7)
        | fail)
      all_goals
        have hr7 := HOWN7.out
        rw [split3] at hr7
        obtain ⟨HE1, HE2⟩ := HREF.out 0
        have HEN := Lib.hid (cenc_any ⟨#[120]⟩ ty 0 null v7 _ w7 hr7 (HBX.out 0))
        rw [HE1] at HEN
        have HCK := fun w => Lib.hid (rchk_any ⟨#[120]⟩ ty 0 null vb vn vs w)
        have hchk : chkV ty null (⟨vb, vn, vs⟩ : Vl) = chk ty null vb vn vs := rfl
        rw [hchk] at HEN HE2
        have HRF := Lib.hid (refuse_facts HE2)
        clear HE1 HE2 hchk hr7
        generalize encS ty null (([] : List Vl).take 0 ++ (⟨vb, vn, vs⟩ : Vl) :: ([] : List Vl).drop 0) = S at *
        generalize chk ty null vb vn vs = E at *
        have HB7x := Lib.hid HB7.out
        obtain ⟨⟨x0, x1, x2, x3⟩, ⟨y0, y1, y2⟩⟩ := HVV.out w7 HB7x.out
        go_wp2_with fail
        all_goals
          (with_reducible refine HEN.out.mono ?_); rintro e w8 ⟨rfl, hb8⟩
          have hb28 := HB7x.out.trans (hb8.mono HB7x.out.size)
          clear x0 x1 x2 x3 y0 y1 y2
          obtain ⟨⟨x0, x1, x2, x3⟩, ⟨y0, y1, y2⟩⟩ := HVV.out w8 hb28
          go_wp2_with fail
          (with_reducible refine (HCK _).out.mono ?_); rintro e w9 ⟨rfl, hb9⟩
          have hb29 := bel_trans hb28 hb9
          clear x0 x1 x2 x3 y0 y1 y2 hb8 hb9 hb28
          go_wp2_with fail
          (with_reducible refine (awake12_any _).mono ?_); rintro e w10 ⟨rfl, hb10⟩
          have hB := bel_trans (bel_trans (bel_trans HBV0.out HB1.out) HBA.out) (bel_trans HB2.out (bel_trans hb29 hb10))
          rcases HRF.out with ⟨rfl, r1, r2⟩ | ⟨r0, r1, r2⟩
          · go_wp2
            go_ret
            exact RetB.mk rfl hB
          · go_wp2
            go_ret
            exact RetB.mk rfl hB
    · have HLH := Lib.hid (show lx.take k = lx.take (lx.take k).length from by rw [List.length_take, Nat.min_eq_left hkn])
      have HLL := Lib.hid (show (lx.take k).length = k from by rw [List.length_take, Nat.min_eq_left hkn])
      have hzk : Below w2.heap.size w2 w2.drew := (Below.refl _ _).drew
      have hza := ((Below.refl w2.heap.size w2).alloc (Nat.le_refl _) (.cells #[.bool vb, .int .i64 vn, .string vs] 43)).drew
      obtain ⟨⟨c0, c1, c2, c3⟩, ⟨d0, d1, d2⟩⟩ := HVV.out w2 (Below.refl _ _)
      have HHD := Lib.hid (fun w (hb : Below w2.heap.size w2 w) => show RdL w w2.heap.size (.slice (some ad) k c) (lx.take k) from by
        have h := (HXR.out.below hb).head (m := lx.take k) HLH.out (by rw [HLL.out]; exact hkn)
        rwa [HLL.out] at h)
      have HTL := Lib.hid (fun w (hb : Below w2.heap.size w2 w) => (HXR.out.below hb).cutC hkn)
      have HSA := Lib.hid (show w2.heap.size + 1 ≤ (w2.alloc (.cells #[.bool vb, .int .i64 vn, .string vs] 43)).drew.heap.size from by simp)
      have HLT := Lib.hid (show RdL (w2.alloc (.cells #[.bool vb, .int .i64 vn, .string vs] 43)).drew (w2.heap.size + 1) (.slice (some ⟨w2.heap.size, 0, none⟩) 1 1) [(⟨vb, vn, vs⟩ : Vl)] from (RdL.lit w2 [⟨vb, vn, vs⟩] 1 43 (Nat.le_refl 1) (by decide)).below (Below.refl _ _).drew)
      have HLN := Lib.hid (show ([] : List Vl).length + (lx.take k).length ≤ 1000000 from by rw [HLL.out]; simp only [List.length_nil]; omega)
      have HLN2 := Lib.hid (show (([] : List Vl) ++ lx.take k).length + [(⟨vb, vn, vs⟩ : Vl)].length ≤ 1000000 from by rw [List.nil_append, HLL.out]; simp only [List.length_cons, List.length_nil]; omega)
      have HLN3 := Lib.hid (show (([] : List Vl) ++ lx.take k ++ [(⟨vb, vn, vs⟩ : Vl)]).length + (lx.drop k).length ≤ 1000000 from by rw [List.length_append, List.nil_append, HLL.out, List.length_drop]; simp only [List.length_cons, List.length_nil]; omega)
      have HBK := Lib.hid hzk; have HBK2 := Lib.hid hza
      clear hzk hza
      go_wp2_with fail
      go_region_law (first
        | (show (if Region.wanted ⟨some 32, _, _, _, _, _⟩ _ = true then _ else _); refine step_appL rfl (.const (.slice none 0 0)) (.tmp 31) 27 rfl w2.heap.size 43 Try.underlying27 Try.infVal (.slice none 0 0) [] rfl (OwnL.nil _ _ _) w2.heap.size (.slice (some ad) k c) (lx.take k) rfl (HHD.out _ HBK.out) HLN.out (Nat.le_refl _) ?_; intro v3 w3 hown3 hb3 _; obtain ⟨⟨-, -, -, -⟩, ⟨f0, f1, f2⟩⟩ := HVV.out w3 (HBK.out.trans hb3); have HOWN4 := Lib.hid (hown3.alloc (.cells #[.bool vb, .int .i64 vn, .string vs] 43)); have HRD4 := Lib.hid (RdL.lit1F w3 vb vn vs 43); have HB4 := Lib.hid ((HBK.out.trans hb3).alloc hb3.size (.cells #[.bool vb, .int .i64 vn, .string vs] 43)); clear hown3 hb3)
        | (show (if Region.wanted ⟨some 32, _, _, _, _, _⟩ _ = true then _ else _); refine step_appL rfl (.const (.slice none 0 0)) (.tmp 31) 27 rfl (w2.heap.size + 1) 43 Try.underlying27 Try.infVal (.slice none 0 0) [] rfl (OwnL.nil _ _ _) w2.heap.size (.slice (some ad) k c) (lx.take k) rfl (HHD.out _ HBK2.out) HLN.out HSA.out ?_; intro v3 w3 hown3 hb3 _; have HOWN4 := Lib.hid hown3; have HRD4 := Lib.hid (HLT.out.below hb3); have HB4 := Lib.hid (HBK2.out.trans (hb3.mono (Nat.le_succ _))); have HS4 := Lib.hid (Nat.le_trans HSA.out hb3.size); clear hown3 hb3)
        | (show (if Region.wanted ⟨some 35, _, _, _, _, _⟩ _ = true then _ else _); refine step_appL rfl (.tmp 32) (.tmp 34) 27 rfl w2.heap.size 43 Try.underlying27 Try.infVal v3 ([] ++ lx.take k) rfl HOWN4.out (w3.alloc (.cells #[.bool vb, .int .i64 vn, .string vs] 43)).heap.size (.slice (some ⟨w3.heap.size, 0, none⟩) 1 1) [(⟨vb, vn, vs⟩ : Vl)] rfl HRD4.out HLN2.out HB4.out.size ?_; intro v5 w5 hown5 hb5 _; have HOWN5 := Lib.hid hown5; have HB5 := Lib.hid (HB4.out.trans hb5); have HT5 := Lib.hid (HTL.out _ HB5.out); clear hown5 hb5)
        | (show (if Region.wanted ⟨some 35, _, _, _, _, _⟩ _ = true then _ else _); refine step_appL rfl (.tmp 32) (.tmp 34) 27 rfl (w2.heap.size + 1) 43 Try.underlying27 Try.infVal v3 ([] ++ lx.take k) rfl HOWN4.out (w2.heap.size + 1) (.slice (some ⟨w2.heap.size, 0, none⟩) 1 1) [(⟨vb, vn, vs⟩ : Vl)] rfl HRD4.out HLN2.out HS4.out ?_; intro v5 w5 hown5 hb5 _; have HOWN5 := Lib.hid hown5; have HB5 := Lib.hid (HB4.out.trans (hb5.mono (Nat.le_succ _))); have HS5 := Lib.hid (Nat.le_trans HS4.out hb5.size); have HT5 := Lib.hid (HTL.out _ HB5.out); clear hown5 hb5)
        | (show (if Region.wanted ⟨some 39, _, _, _, _, _⟩ _ = true then _ else _); refine step_appL rfl (.tmp 35) (.tmp 38) 27 rfl w2.heap.size 43 Try.underlying27 Try.infVal v5 ([] ++ lx.take k ++ [(⟨vb, vn, vs⟩ : Vl)]) rfl HOWN5.out w2.heap.size (.slice (if c = k then some ad else some (ad.add (k * 3))) (lx.length - k) (c - k)) (lx.drop k) rfl HT5.out HLN3.out HB5.out.size ?_; intro v7 w7 hown7 hb7 _; have HOWN7 := Lib.hid hown7.read; have HB7 := Lib.hid (HB5.out.trans hb7); clear hown7 hb7)
        | (show (if Region.wanted ⟨some 39, _, _, _, _, _⟩ _ = true then _ else _); refine step_appL rfl (.tmp 35) (.tmp 38) 27 rfl (w2.heap.size + 1) 43 Try.underlying27 Try.infVal v5 ([] ++ lx.take k ++ [(⟨vb, vn, vs⟩ : Vl)]) rfl HOWN5.out w2.heap.size (.slice (if c = k then some ad else some (ad.add (k * 3))) (lx.length - k) (c - k)) (lx.drop k) rfl HT5.out HLN3.out HS5.out ?_; intro v7 w7 hown7 hb7 _; have HOWN7 := Lib.hid hown7.read; have HB7 := Lib.hid (HB5.out.trans (hb7.mono (Nat.le_succ _))); clear hown7 hb7)
        | fail)
      all_goals
        have hr7 := HOWN7.out
        rw [split3] at hr7
        obtain ⟨HE1, HE2⟩ := HREF.out k
        have HEN := Lib.hid (cenc_any ⟨#[120]⟩ ty 0 null v7 _ w7 hr7 (HBX.out k))
        rw [HE1] at HEN
        have HCK := fun w => Lib.hid (rchk_any ⟨#[120]⟩ ty 0 null vb vn vs w)
        have hchk : chkV ty null (⟨vb, vn, vs⟩ : Vl) = chk ty null vb vn vs := rfl
        rw [hchk] at HEN HE2
        have HRF := Lib.hid (refuse_facts HE2)
        clear HE1 HE2 hchk hr7
        generalize encS ty null (lx.take k ++ (⟨vb, vn, vs⟩ : Vl) :: lx.drop k) = S at *
        generalize chk ty null vb vn vs = E at *
        have HB7x := Lib.hid HB7.out
        obtain ⟨⟨x0, x1, x2, x3⟩, ⟨y0, y1, y2⟩⟩ := HVV.out w7 HB7x.out
        go_wp2_with fail
        all_goals
          (with_reducible refine HEN.out.mono ?_); rintro e w8 ⟨rfl, hb8⟩
          have hb28 := HB7x.out.trans (hb8.mono HB7x.out.size)
          clear x0 x1 x2 x3 y0 y1 y2
          obtain ⟨⟨x0, x1, x2, x3⟩, ⟨y0, y1, y2⟩⟩ := HVV.out w8 hb28
          go_wp2_with fail
          (with_reducible refine (HCK _).out.mono ?_); rintro e w9 ⟨rfl, hb9⟩
          have hb29 := bel_trans hb28 hb9
          clear x0 x1 x2 x3 y0 y1 y2 hb8 hb9 hb28
          go_wp2_with fail
          (with_reducible refine (awake12_any _).mono ?_); rintro e w10 ⟨rfl, hb10⟩
          have hB := bel_trans (bel_trans (bel_trans HBV0.out HB1.out) HBA.out) (bel_trans HB2.out (bel_trans hb29 hb10))
          rcases HRF.out with ⟨rfl, r1, r2⟩ | ⟨r0, r1, r2⟩
          · go_wp2
            go_ret
            exact RetB.mk rfl hB
          · go_wp2
            go_ret
            exact RetB.mk rfl hB
theorem chunkRefuses_holds : Rows.ChunkRefusesSaid :=
  OpenClaim.holds_of_wide 8 Try.f8 rfl rfl rfl rfl rfl rfl rfl ⟨rfl, rfl, rfl, rfl, rfl⟩ rfl rfl rfl rfl rfl (by kernel_rfl) Try.func8 (by kernel_rfl)
    (of_decide_eq_true (by kernel_rfl)) (by unfold Func.isWrapper; first | (rw [if_pos (by decide +kernel)]; kernel_rfl) | (rw [if_neg (by decide +kernel)]; exact ⟨rfl, rfl⟩))
    (fun os started H enc _ => chunkRefuses_lifted os started H enc)
end Go.Proofs.Ytbolbbngncnecaa
