/- The statements of layer 3 on arbitrary tables and on what is left of the table. -/
import Derived.Test.YtddjcanljfedcaaCrcLaw
namespace Go.VB
open Go.RowKit
theorem wf_u32 {z : Int} (h : (Lit.int .u32 z).wf = true) : 0 ≤ z ∧ z.toNat < 4294967296 := by
  obtain ⟨h1, h2⟩ := bounds_u32 h; omega
/-- A row that was just laid out. -/
theorem RdN.lit (k : IntKind) (w : World) (l : List Nat) (m : Nat) (e : TypeId) (hm : l.length ≤ m) (hm2 : m ≤ maxLen) : RdN k (w.alloc (.cells (nvs k l).toArray e)) (w.heap.size + 1) (.slice (some ⟨w.heap.size, 0, none⟩) l.length m) l :=
  ⟨_, m, rfl, hm, hm2, fun i hi => ⟨_, rfl, Nat.lt_succ_self _, by
    have h := nvs_get k l i hi
    have e : ((⟨w.heap.size, 0, none⟩ : Addr).add i) = ⟨w.heap.size, i, none⟩ := by
      unfold Addr.add
      by_cases h0 : i = 0
      · subst h0; rfl
      · simp [h0]
    rw [e, World.cell?_alloc_new]
    simpa using h⟩⟩
theorem OwnN.empty (k : IntKind) (e : TypeId) (w : World) (base : Nat) (hb : base ≤ w.heap.size) : OwnN k e (w.alloc (.cells #[] e)) base (.slice (some ⟨w.heap.size, 0, none⟩) 0 0) [] := by
  have h := RowN.made k e w base 0 hb (Nat.zero_le _)
  have e1 : madeCells #[Value.int k 0] 0 = #[] := by simp [madeCells]
  rw [e1] at h
  exact h
theorem RowN.cap {k : IntKind} {e : TypeId} {w : World} {base g c : Nat} {l : List Nat} (h : RowN k e w base g c l) : l.length ≤ c ∧ c ≤ maxLen := by
  obtain ⟨A, c', hv, h1, h2, _⟩ := h.read
  cases hv
  exact ⟨h1, h2⟩
/-- The head of a row, as a slice of a smaller capacity. -/
theorem RowN.head {k : IntKind} {e : TypeId} {w : World} {base g c : Nat} {l m : List Nat} (h : RowN k e w base g c (l ++ m)) (d : Nat) (hd : l.length ≤ d) (hd2 : d ≤ maxLen) : RdN k w w.heap.size (.slice (some ⟨g, 0, none⟩) l.length d) l := by
  refine ⟨_, d, rfl, hd, hd2, fun i hi => ⟨_, rfl, h.lt.2, ?_⟩⟩
  have hc := h.cell i (by rw [List.length_append]; omega)
  rw [List.getD_eq_getElem?_getD, List.getElem?_append_left hi, ← List.getD_eq_getElem?_getD] at hc
  unfold Addr.add
  by_cases h0 : i = 0
  · subst h0; simpa using hc
  · simpa [h0] using hc
end Go.VB
namespace Go.Proofs.Ytddjcanljfedcaa
open Go.RowKit Go.VB Go.CR Go.ChangeShapes Go.WideShapes Go.ChangeAt
open Go.ChangeMaps (open_string)
set_option linter.constructorNameAsVariable false
theorem set_lt32 {l : List Nat} {i y : Nat} (h : ∀ x ∈ l, x < 4294967296) (hy : y < 4294967296) : ∀ x ∈ l.set i y, x < 4294967296 := fun x hx => by
  rcases List.mem_or_eq_of_mem_set hx with h1 | h1
  · exact h x h1
  · rw [h1]; exact hy
set_option maxRecDepth 100000 in
set_option maxHeartbeats 2000000 in
theorem tables_walk (v0 : Value) (l : List Nat) (s : ByteArray) (a b f : Nat) (n : Int) (W : World) (rt : RdN .u32 W W.heap.size v0 l) (hl : ∀ x ∈ l, x < 4294967296) (zs : s.size ≤ 140737488351232)
    (ha : a < 4294967296) (hb : b < 4294967296) (hf : f < 4294967296) (wn : (Lit.int .i64 n).wf = true) :
    Calls Try.prog 6 #[v0, .string s, .int .u32 (a : Int), .int .u32 (b : Int), .int .i64 n, .int .u32 (f : Int)] W (RetB (.bool true) W) := by
  have hp := pickN_bd n (n := 300) (by decide)
  have HPK := fun w => Lib.hid (pick_at n 300 w wn (by decide) (by decide))
  generalize pickN n 300 = p at *
  obtain ⟨p1, p2⟩ := hp
  clear wn
  go_enter Try.func6, Try.ntmps6
  go_wp2_with fail
  refine (HPK _).out.mono ?_; rintro e w' ⟨rfl, rfl⟩
  clear HPK
  go_wp2_with fail
  refine (rtable_any _).mono ?_
  rintro e w1 ⟨v, rfl, hown, hB⟩
  rcases hown.forms with ⟨_, hnil⟩ | ⟨g, c, hv, hrow⟩
  · exact absurd (congrArg List.length hnil) (by rw [tab_len]; decide)
  rw [tab_len] at hv
  subst hv
  clear hown
  go_wp2
  go_loopw [21] (fun i wr => ∃ (j : Nat) (cur : List Nat), i = .int .i64 j ∧ j ≤ 256 ∧ cur.length = 256 ∧ (∀ x ∈ cur, x < 4294967296) ∧ RowN .u32 22 wr W.heap.size g c cur ∧ Below W.heap.size W wr) (fun i _ => 256 - (intOf i).toNat)
  case atStart => exact ⟨0, tab, rfl, by decide, tab_len, tab_lt, hrow, hB⟩
  case round =>
    clear hrow hB
    obtain ⟨j, cur, rfl, hj, hlen, hcur, hrow, hbel⟩ := hrel
    have HN := Lib.hid hlen
    by_cases hlt : j < 256
    · have hc := hrow.cell j (by rw [hlen]; exact hlt)
      have hfr := hrow.frozen j
      have hx := get_lt (i := j) hcur
      have e1 := u32_xor_nat _ f hx hf
      have hxl := xor_lt hx hf
      have hst := hrow.store j (cur.getD j 0 ^^^ f)
      rw [← e1] at hst
      have hgW := hrow.lt.1
      have e2 : ((cur.getD j 0 ^^^ f : Nat) : Int) = bits .xor .u32 ((cur.getD j 0 : Nat) : Int) (f : Int) := e1.symm
      have HE := Lib.hid e2
      clear hlen e1 e2
      generalize cur.getD j 0 = x at *
      go_wp2
      clear hc hfr
      go_roundw
      case rel => exact ⟨j + 1, cur.set j (x ^^^ f), by go_num, hlt, by rw [List.length_set]; exact HN.out, set_lt32 hcur hxl, hst, hbel.setCell hgW _⟩
      case measure => simp [intOf] <;> omega
    · have ru := (hrow.own_at hlen rfl).read
      have rt1 := (rt.step hbel)
      clear hlen hrow rt
      go_wp2_with fail
      refine (awake3_any _).mono ?_
      rintro e w3 ⟨rfl, hb3⟩
      replace hbel := bel_trans hbel hb3
      replace ru := ru.step hb3
      replace rt1 := rt1.step hb3
      clear hb3
      go_wp2_with fail
      refine (csum_any _ l s _ rt1 hl zs).mono ?_; rintro e w' ⟨rfl, rfl⟩
      go_wp2_with fail
      refine (rsum_any _ l s _ rt1 hl zs).mono ?_; rintro e w' ⟨rfl, rfl⟩
      generalize sumL l s.data.toList = r1
      go_wp2_with fail
      refine (csum_any _ cur s _ ru hcur zs).mono ?_; rintro e w' ⟨rfl, rfl⟩
      go_wp2_with fail
      refine (rsum_any _ cur s _ ru hcur zs).mono ?_; rintro e w' ⟨rfl, rfl⟩
      generalize sumL cur s.data.toList = r2
      go_wp2_with fail
      refine (cjoin_any _ l a b _ _ rt1 hl ha hb).mono ?_; rintro e w' ⟨rfl, rfl⟩
      go_wp2_with fail
      refine (rjoin_any _ l a b _ _ rt1 hl ha hb).mono ?_; rintro e w' ⟨rfl, rfl⟩
      generalize joinL l a b _ = r3
      go_wp2_with fail
      refine (cjoin_any _ cur a b _ _ ru hcur ha hb).mono ?_; rintro e w' ⟨rfl, rfl⟩
      go_wp2_with fail
      refine (rjoin_any _ cur a b _ _ ru hcur ha hb).mono ?_; rintro e w' ⟨rfl, rfl⟩
      generalize joinL cur a b _ = r4
      go_wp2
      go_ret
      exact RetB.mk rfl hbel
set_option maxRecDepth 100000 in
set_option maxHeartbeats 4000000 in
theorem crcTables_lifted (os : Os) (started : os.Started) (H : Type) (enc : TypeId × Value → H) :
    ReturnsInHanded {} Try.checked os 6 .any (Rows.crcTablesSpec.pre6 enc Try.prog Try.f6 Rows.crcTablesRow.domain false) (Rows.crcTablesSpec.post enc Try.prog Try.f6 false true false false) := by
  refine law_lifted (C := Try.checked) (tb := 4) started Try.own Try.laidOut (by kernel_rfl) Try.func6
    (ChangeSpec.witness6 (enc := enc) (C := Try.checked) false ⟨#[], #[.slice none 0 0, .string ⟨#[]⟩, .int .u32 0, .int .u32 0, .int .i64 0, .int .u32 0], []⟩ 8 (by kernel_rfl) (by kernel_rfl) (by kernel_rfl) (by kernel_rfl))
    rfl rfl Try.underlying4 (by kernel_rfl) (fun ds h => ?_) (fun W base args ds p hval0 hA0 hsz0 hlt => ?_)
  · have h' : ds.length = Try.f6.params.toList.length := h
    rw [Try.params6] at h'
    match ds, h' with
    | [_, _, _, _, _, _], _ => rfl
  · have hval : ∀ (j : Nat) t v, Try.f6.params[j]? = some t → args[j]? = some v → Value.okWide Try.prog W .any base t v := hval0
    have hA : DataW.TrodAll enc Try.prog W 0 (fun _ => true) true Try.f6.params.toList args.toList ds p := hA0
    have hsz : (DataW.weightsEach Try.prog Try.f6.params.toList ds).all (· ≤ reachBytes) = true := hsz0
    rw [Try.params6] at hA hval hsz
    clear hA0 hval0 hsz0
    obtain ⟨v0, vs0, d0, ds0, p0, q0, hargs, rfl, rfl, h0, r0⟩ := trodAll_cons hA
    obtain ⟨v1, vs1, d1, ds1, p1, q1, rfl, rfl, rfl, h1, r1⟩ := trodAll_cons r0
    obtain ⟨v2, vs2, d2, ds2, p2, q2, rfl, rfl, rfl, h2, r2⟩ := trodAll_cons r1
    obtain ⟨v3, vs3, d3, ds3, p3, q3, rfl, rfl, rfl, h3, r3⟩ := trodAll_cons r2
    obtain ⟨v4, vs4, d4, ds4, p4, q4, rfl, rfl, rfl, h4, r4⟩ := trodAll_cons r3
    obtain ⟨v5, vs5, d5, ds5, p5, q5, rfl, rfl, rfl, h5, r5⟩ := trodAll_cons r4
    obtain ⟨rfl, rfl, rfl⟩ := trodAll_nil r5
    obtain rfl : args = #[v0, v1, v2, v3, v4, v5] := by cases args; simp_all
    obtain ⟨zt, rt, wt, bt⟩ := open_rdI Try.underlying24 Try.underlying22 (by kernel_rfl) (hval 0 24 v0 rfl rfl) h0 hsz (j := 0) rfl rfl
    obtain ⟨s, rfl, rfl, rfl, _⟩ := open_string Try.underlying9 (hval 1 9 v1 rfl rfl) h1
    have zs : s.size ≤ 140737488351232 := by have h := sized_string hsz (j := 1) (t := 9) rfl rfl; rw [size_list] at h; exact h
    obtain ⟨a, rfl, rfl, rfl, wa⟩ := open_int Try.underlying22 (hval 2 22 v2 rfl rfl) h2
    obtain ⟨b, rfl, rfl, rfl, wb⟩ := open_int Try.underlying22 (hval 3 22 v3 rfl rfl) h3
    obtain ⟨n, rfl, rfl, rfl, wn⟩ := open_int Try.underlying3 (hval 4 3 v4 rfl rfl) h4
    obtain ⟨fill, rfl, rfl, rfl, wfill⟩ := open_int Try.underlying22 (hval 5 22 v5 rfl rfl) h5
    change Calls Try.prog 6 #[v0, .string s, .int .u32 a, .int .u32 b, .int .i64 n, .int .u32 fill] W (RetB (.bool true) W)
    obtain ⟨a1, a2⟩ := wf_u32 wa
    obtain ⟨b1, b2⟩ := wf_u32 wb
    obtain ⟨f1, f2⟩ := wf_u32 wfill
    obtain ⟨a, rfl⟩ := Int.eq_ofNat_of_zero_le a1
    obtain ⟨b, rfl⟩ := Int.eq_ofNat_of_zero_le b1
    obtain ⟨f, rfl⟩ := Int.eq_ofNat_of_zero_le f1
    rw [Int.toNat_natCast] at a2 b2 f2
    refine tables_walk v0 (zt.map Int.toNat) s a b f n W (rt.toN fun z h => (wf_u32 (wt z h)).1) (fun x h => ?_) zs a2 b2 f2 wn
    obtain ⟨z, hz, rfl⟩ := List.mem_map.1 h
    exact (wf_u32 (wt z hz)).2
theorem crcTables_holds : Rows.CrcTablesSaid :=
  OpenClaim.holds_of_wide 6 Try.f6 rfl rfl rfl rfl rfl rfl rfl ⟨rfl, rfl, rfl, rfl, rfl⟩ rfl rfl rfl rfl rfl (by kernel_rfl) Try.func6 (by kernel_rfl)
    (of_decide_eq_true (by kernel_rfl)) (by unfold Func.isWrapper; first | (rw [if_pos (by decide +kernel)]; kernel_rfl) | (rw [if_neg (by decide +kernel)]; exact ⟨rfl, rfl⟩))
    (fun os started H enc _ => crcTables_lifted os started H enc)

/-- A copy with three more cells behind it. -/
def SpareP (l : List Nat) (f : Nat) (w : World) : Ending → World → Prop := fun en w' =>
  ∃ g c, en = .returned (.slice (some ⟨g, 0, none⟩) l.length (l.length + 3)) ∧ RowN .u32 22 w' w.heap.size g c (l ++ [f, f, f]) ∧ Below w.heap.size w w'
theorem SpareP.mk {l : List Nat} {f : Nat} {w w' : World} {x : Value} {g c : Nat} (hx : x = .slice (some ⟨g, 0, none⟩) l.length (l.length + 3)) (h : RowN .u32 22 w' w.heap.size g c (l ++ [f, f, f])) (hb : Below w.heap.size w w') : SpareP l f w (.returned x) w' :=
  ⟨g, c, by rw [hx], h, hb⟩
set_option maxRecDepth 100000 in
set_option maxHeartbeats 1000000 in
theorem spare_any (vl : Value) (l : List Nat) (f : Nat) (w : World) (hr : RdN .u32 w w.heap.size vl l) (hl : l.length ≤ 100000) :
    Calls Try.prog 19 #[vl, .int .u32 (f : Int)] w (SpareP l f w) := by
  have hr0 := hr
  obtain ⟨A, cl, rfl, hc1, hc2, _⟩ := hr0
  have hb1 : Below w.heap.size w (w.alloc (.cells #[] 22)) := (Below.refl _ _).alloc (Nat.le_refl _) _
  have hr1 := hr.step hb1
  have h0 := OwnN.empty .u32 22 w w.heap.size (Nat.le_refl _)
  have hsz0 := hb1.size
  go_enter Try.func19, Try.ntmps19
  go_wp2_with (at_builtin; refine wpl_appN rfl _ _ 24 rfl w.heap.size 22 .u32 4 Try.underlying24 Try.inf32 _ [] rfl h0 (w.alloc (.cells #[] 22)).heap.size _ l rfl hr1 (by unfold maxLen; simp only [List.length_nil]; omega) (by simp only [List.length_nil]; omega) hsz0 ?_)
  intro v1 w1 hown1 hb _
  replace hb1 := hb1.trans hb
  clear hr1 h0 hsz0 hb
  have hsz1 := hb1.size
  go_wp2_with (at_builtin; refine wpl_appN rfl _ _ 24 rfl w.heap.size 22 .u32 4 Try.underlying24 Try.inf32 _ l rfl (hown1.alloc _) (w1.heap.size + 1) _ [f, f, f] rfl (RdN.lit .u32 w1 [f, f, f] 3 22 (Nat.le_refl _) (by decide)) (by unfold maxLen; simp only [List.length_cons, List.length_nil]; omega) (by simp only [List.length_cons, List.length_nil]; omega) (by simp; omega) ?_)
  intro v2 w2 hown2 hb _
  have hb2 := (hb1.alloc hsz1 _).trans hb
  clear hb hown1
  rcases hown2.forms with ⟨_, hnil⟩ | ⟨g, c, hv, hrow⟩
  · simp at hnil
  have hlen : (l ++ [f, f, f]).length = l.length + 3 := by rw [List.length_append]; rfl
  rw [hlen] at hv
  subst hv
  obtain ⟨hc3, hc4⟩ := hrow.cap
  rw [hlen] at hc3
  clear hown2 hlen
  go_wp2
  go_ret
  exact SpareP.mk rfl hrow hb2
set_option maxRecDepth 100000 in
set_option maxHeartbeats 1000000 in
theorem kept_any (g c base : Nat) (v2 : Value) (l : List Nat) (f : Nat) (w : World) (hrow : RowN .u32 22 w base g c (l ++ [f, f, f])) (hr : RdN .u32 w w.heap.size v2 l) (hl : l.length ≤ 100000) :
    Calls Try.prog 20 #[.slice (some ⟨g, 0, none⟩) l.length (l.length + 3), v2, .int .u32 (f : Int)] w (RetB (.bool true) w) := by
  have hr0 := hr
  obtain ⟨A, cl, rfl, hc1, hc2, _⟩ := hr0
  have hs := same_u32_eq _ _ l _ w (hrow.head (l.length + 3) (by omega) (by unfold maxLen; omega)) hr (Nat.le_refl _)
  go_enter Try.func20, Try.ntmps20
  go_wp2_with fail
  refine hs.mono ?_
  rintro e w1 ⟨rfl, hb⟩
  replace hrow := hrow.below hb
  have c0 := hrow.cell l.length (by simp)
  have c1 := hrow.cell (l.length + 1) (by simp)
  have c2 := hrow.cell (l.length + 2) (by simp)
  have g0 : (l ++ [f, f, f]).getD l.length 0 = f := by simp [List.getD_eq_getElem?_getD]
  have g1 : (l ++ [f, f, f]).getD (l.length + 1) 0 = f := by simp [List.getD_eq_getElem?_getD]
  have g2 : (l ++ [f, f, f]).getD (l.length + 2) 0 = f := by simp [List.getD_eq_getElem?_getD]
  rw [g0] at c0; rw [g1] at c1; rw [g2] at c2
  clear g0 g1 g2 hr hs
  go_wp2
  go_ret
  exact RetB.mk rfl hb
set_option maxRecDepth 100000 in
set_option maxHeartbeats 4000000 in
theorem crcKeepsTable_lifted (os : Os) (started : os.Started) (H : Type) (enc : TypeId × Value → H) :
    ReturnsInHanded {} Try.checked os 8 .any (Rows.crcKeepsTableSpec.pre6 enc Try.prog Try.f8 Rows.crcKeepsTableRow.domain false) (Rows.crcKeepsTableSpec.post enc Try.prog Try.f8 false true false false) := by
  refine law_lifted (C := Try.checked) (tb := 4) started Try.own Try.laidOut (by kernel_rfl) Try.func8
    (ChangeSpec.witness6 (enc := enc) (C := Try.checked) false ⟨#[], #[.string ⟨#[]⟩, .int .i64 0], []⟩ 8 (by kernel_rfl) (by kernel_rfl) (by kernel_rfl) (by kernel_rfl))
    rfl rfl Try.underlying4 (by kernel_rfl) (fun ds h => ?_) (fun W base args ds p hval0 hA0 hsz0 hlt => ?_)
  · have h' : ds.length = Try.f8.params.toList.length := h
    rw [Try.params8] at h'
    match ds, h' with
    | [_, _], _ => rfl
  · have hval : ∀ (j : Nat) t v, Try.f8.params[j]? = some t → args[j]? = some v → Value.okWide Try.prog W .any base t v := hval0
    have hA : DataW.TrodAll enc Try.prog W 0 (fun _ => true) true Try.f8.params.toList args.toList ds p := hA0
    have hsz : (DataW.weightsEach Try.prog Try.f8.params.toList ds).all (· ≤ reachBytes) = true := hsz0
    rw [Try.params8] at hA hval hsz
    clear hA0 hval0 hsz0
    obtain ⟨v0, vs0, d0, ds0, p0, q0, hargs, rfl, rfl, h0, r0⟩ := trodAll_cons hA
    obtain ⟨v1, vs1, d1, ds1, p1, q1, rfl, rfl, rfl, h1, r1⟩ := trodAll_cons r0
    obtain ⟨rfl, rfl, rfl⟩ := trodAll_nil r1
    obtain rfl : args = #[v0, v1] := by cases args; simp_all
    obtain ⟨s, rfl, rfl, rfl, _⟩ := open_string Try.underlying9 (hval 0 9 v0 rfl rfl) h0
    have zs : s.size ≤ 140737488351232 := by have h := sized_string hsz (j := 0) (t := 9) rfl rfl; rw [size_list] at h; exact h
    obtain ⟨n, rfl, rfl, rfl, wn⟩ := open_int Try.underlying3 (hval 1 3 v1 rfl rfl) h1
    change Calls Try.prog 8 #[.string s, .int .i64 n] W (RetB (.bool true) W)
    have hp := pickN_bd n (n := 50) (by decide)
    have HPK := fun w => Lib.hid (pick_at n 50 w wn (by decide) (by decide))
    generalize pickN n 50 = p at *
    obtain ⟨p1, p2⟩ := hp
    clear wn
    go_enter Try.func8, Try.ntmps8
    go_wp2_with fail
    refine (rtable_any _).mono ?_
    rintro e w1 ⟨v, rfl, hown, hB⟩
    go_wp2_with fail
    refine (spare_any v tab 7 _ hown.read (by rw [tab_len]; decide)).mono ?_
    rintro e w2 ⟨g, c, rfl, hrow, hb⟩
    replace hrow := hrow.lower hB.size
    replace hB := bel_trans hB hb
    clear hb hown
    have hrd := hrow.head (tab.length + 3) (by omega) (by rw [tab_len]; decide)
    go_wp2_with fail
    refine (csum_any _ tab s _ hrd tab_lt zs).mono ?_; rintro e w' ⟨rfl, rfl⟩
    go_wp2_with fail
    refine (HPK _).out.mono ?_; rintro e w' ⟨rfl, rfl⟩
    clear HPK
    go_wp2_with fail
    refine (cjoin_any _ tab 1 2 _ _ hrd tab_lt (by decide) (by decide)).mono ?_; rintro e w' ⟨rfl, rfl⟩
    clear hrd
    go_wp2_with fail
    refine (awake3_any _).mono ?_
    rintro e w3 ⟨rfl, hb⟩
    replace hB := bel_trans hB hb
    replace hrow := hrow.below hb
    clear hb
    go_wp2_with fail
    refine (rtable_any _).mono ?_
    rintro e w4 ⟨v4, rfl, hown4, hb⟩
    replace hB := bel_trans hB hb
    replace hrow := hrow.below hb
    clear hb
    go_wp2_with fail
    refine (kept_any g c _ _ tab 7 _ hrow hown4.read (by rw [tab_len]; decide)).mono ?_
    rintro e w5 ⟨rfl, hb⟩
    replace hB := bel_trans hB hb
    clear hb
    go_wp2
    go_ret
    exact RetB.mk rfl hB
theorem crcKeepsTable_holds : Rows.CrcKeepsTableSaid :=
  OpenClaim.holds_of_wide 8 Try.f8 rfl rfl rfl rfl rfl rfl rfl ⟨rfl, rfl, rfl, rfl, rfl⟩ rfl rfl rfl rfl rfl (by kernel_rfl) Try.func8 (by kernel_rfl)
    (of_decide_eq_true (by kernel_rfl)) (by unfold Func.isWrapper; first | (rw [if_pos (by decide +kernel)]; kernel_rfl) | (rw [if_neg (by decide +kernel)]; exact ⟨rfl, rfl⟩))
    (fun os started H enc _ => crcKeepsTable_lifted os started H enc)
end Go.Proofs.Ytddjcanljfedcaa
