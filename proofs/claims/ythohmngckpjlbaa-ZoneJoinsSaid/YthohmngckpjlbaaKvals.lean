/- The statements' own makers: valid values of a column, lists of values compared, a column. -/
import Derived.Test.YthohmngckpjlbaaKval
import Derived.Test.YthohmngckpjlbaaVlsM
import Derived.Test.YthohmngckpjlbaaValV
namespace Go.CK
open Go.RowKit Go.VB Go.VS Go.VL Go.KV Go.Proofs.Ythohmngckpjlbaa
/-- Values of the call's own, at most 39, each valid for the column. -/
def KvP (e : TypeId) (ty : Int) (nu : Bool) (w : World) : Ending → World → Prop := fun en w' =>
  ∃ v l, en = .returned v ∧ OwnL e w' w.heap.size v l ∧ l.length ≤ 39 ∧ (∀ x ∈ l, chkV ty nu x = 0) ∧ (∀ x ∈ l, -9223372036854775808 ≤ x.n ∧ x.n ≤ 9223372036854775807) ∧ Below w.heap.size w w'
theorem KvP.mk {e : TypeId} {ty : Int} {nu : Bool} {w w' : World} {x v : Value} {l : List Vl} (hx : x = v) (ho : OwnL e w' w.heap.size v l) (hl : l.length ≤ 39) (hc : ∀ x ∈ l, chkV ty nu x = 0) (hb : ∀ x ∈ l, -9223372036854775808 ≤ x.n ∧ x.n ≤ 9223372036854775807) (hw : Below w.heap.size w w') : KvP e ty nu w (.returned x) w' := ⟨v, l, by rw [hx], ho, hl, hc, hb, hw⟩
theorem own_src {e : TypeId} {w0 w : World} {B g base : Nat} {v sv : Value} {zl : List Int} {l : List Vl} (hs : Src w0 w B g sv zl) (h : OwnL e w0 base v l) (hg : g < base) : OwnL e w base v l := by
  refine World.ownsRow.kept (row := some g) h ⟨hs.gb.os, hs.gb.tape, hs.gb.output, hs.gb.size, fun k hk hne => hs.gb.block k hk (fun e0 => hne (by rw [e0]))⟩ (.inr fun e0 => ?_)
  have := (OwnL.lt h g e0).1
  omega
theorem bd_wf {n : Int} (h : (Lit.int .i64 n).wf = true) : -9223372036854775808 ≤ n ∧ n ≤ 9223372036854775807 := bounds_i64 h
theorem okT_pick (t : Int) : okT (1 + pickN t 5) = true := by
  obtain ⟨h1, h2⟩ := pickN_bd t (n := 5) (by omega)
  exact decide_eq_true (by omega)
theorem pick_ty (t : Int) : 1 ≤ 1 + pickN t 5 ∧ 1 + pickN t 5 ≤ 5 := by
  obtain ⟨h1, h2⟩ := pickN_bd t (n := 5) (by omega)
  omega
theorem all_snoc {p : Vl → Prop} {l : List Vl} {x : Vl} (h : ∀ y ∈ l, p y) (hx : p x) : ∀ y ∈ l ++ [x], p y := by
  intro y hy
  rcases List.mem_append.1 hy with hy | hy
  · exact h y hy
  · rw [List.mem_singleton.1 hy]; exact hx
end Go.CK
namespace Go.Proofs.Ythohmngckpjlbaa
open Go.RowKit Go.VB Go.VS Go.VL Go.CK Go.KV
set_option maxRecDepth 100000 in
set_option maxHeartbeats 1000000 in
theorem kvals_any (W : World) (v : Value) (zl : List Int) (nm : ByteArray) (ty sc : Int) (nu : Bool) (hr : RdI .i64 W W.heap.size v zl) (hw : ∀ z ∈ zl, (Lit.int .i64 z).wf = true) (hty : 1 ≤ ty ∧ ty ≤ 5) :
    Calls Try.prog 13 #[(.agg #[.string nm, .int .i64 ty, .int .i64 sc, .bool nu]), v] W (KvP 23 ty nu W) := by
  have hK : ∀ (w : World) (g : Nat) (v : Value), Src w w g g v zl → Hid (Calls Try.prog 31 #[.pointer (some ⟨g, 0, none⟩), (.agg #[.string nm, .int .i64 ty, .int .i64 sc, .bool nu])] w (RetS (fun nul n s => VOK ty nul n s ∧ (nul = true → nu = true)) w g g v zl)) := fun w g v hs => by
    cases nu
    · exact Lib.hid (sval_false w w g g v zl nm ty sc hs hty)
    · exact Lib.hid (sval_true w w g g v zl nm ty sc hs hty)
  obtain ⟨A, c, rfl, hc, hm, hrr⟩ := hr
  have hr : RdI .i64 W W.heap.size (.slice A zl.length c) zl := ⟨A, c, rfl, hc, hm, hrr⟩
  have HB1 := Lib.hid ((Below.refl W.heap.size W).alloc (Nat.le_refl _) (.cells #[.string nm, .int .i64 ty, .int .i64 sc, .bool nu] 32))
  have HS1 := Lib.hid (show (W.alloc (.cells #[.string nm, .int .i64 ty, .int .i64 sc, .bool nu] 32)).heap.size = W.heap.size + 1 from by simp)
  have HV := Lib.hid (Var4.new W (.string nm) (.int .i64 ty) (.int .i64 sc) (.bool nu) 32)
  have HF := fun w => Lib.hid (sfrom_any A zl.length c w)
  have HR1 := Lib.hid (hr.step HB1.out)
  have hS0 := Src.made HR1.out hw 74
  rw [HS1.out] at hS0
  have hVX := HV.out.step ((Below.refl _ _).alloc (Nat.le_refl _) (.cells #[.slice A zl.length c, .int .i64 0] 74))
  have hBX := HB1.out.alloc (by rw [HS1.out]; omega) (.cells #[.slice A zl.length c, .int .i64 0] 74)
  clear hr hrr hc hm hw
  go_enter Try.func13, Try.ntmps13
  go_wp2_with fail
  (with_reducible refine (HF _).out.mono ?_); rintro e w1 ⟨rfl, rfl⟩
  rw [HS1.out]
  have hXs : ((W.alloc (.cells #[.string nm, .int .i64 ty, .int .i64 sc, .bool nu] 32)).alloc (.cells #[.slice A zl.length c, .int .i64 0] 74)).heap.size ≤ W.heap.size + 1 + 1 := by simp
  generalize ((W.alloc (.cells #[.string nm, .int .i64 ty, .int .i64 sc, .bool nu] 32)).alloc (.cells #[.slice A zl.length c, .int .i64 0] 74)) = X at *
  go_wp2_with fail
  have hN := snext_any X X [] (W.heap.size + 1) (W.heap.size + 1) (.slice A zl.length c) zl 40 hS0 (by omega) (by omega)
  change Calls _ _ _ X _ at hN
  (with_reducible refine hN.mono ?_)
  clear hN
  rintro e w2 ⟨r, wy, rfl, ⟨ra, rb⟩, hS2, -, rfl⟩
  obtain ⟨r, rfl⟩ := Int.eq_ofNat_of_zero_le ra
  have HVX := Lib.hid hVX; have HBX := Lib.hid hBX
  have hx1 := hS0.lt0
  clear hVX hBX hS0 ra
  go_wp2_with fail
  go_loopw [6, 7] (fun ov nv wr => ∃ (k : Nat) (l : List Vl), nv = .int .i64 k ∧ l.length + k ≤ 39 ∧ OwnL 23 wr (W.heap.size + 1 + 1) ov l ∧ (∀ x ∈ l, chkV ty nu x = 0) ∧ (∀ x ∈ l, -9223372036854775808 ≤ x.n ∧ x.n ≤ 9223372036854775807) ∧ Src X wr (W.heap.size + 1) (W.heap.size + 1) (.slice A zl.length c) zl) (fun _ nv _ => (intOf nv).toNat)
  case atStart => exact ⟨r, [], rfl, by simp; omega, OwnL.nil _ _ _, fun _ h => by simp at h, fun _ h => by simp at h, hS2⟩
  case round =>
    clear hS2 rb
    obtain ⟨k, l, rfl, hlk, hown, hv, hb, hS⟩ := hrel
    have HVL := Lib.hid hv; have HBD := Lib.hid hb; clear hv hb
    by_cases hk : 0 < k
    · have hbx := hS.below
      have hVw := HVX.out.below hbx (Nat.lt_succ_self _)
      obtain ⟨v0, v1, v2, v3⟩ := hVw
      go_wp2_with fail
      (with_reducible refine (hK _ _ _ hS.again).out.mono ?_)
      rintro e w5 ⟨nul, n, s, rfl, ⟨⟨hck, hwf, hs3⟩, hnn⟩, hS5⟩
      have hown5 := own_src hS5 hown (Nat.lt_succ_self _)
      have hS5' : Src X w5 (W.heap.size + 1) (W.heap.size + 1) (.slice A zl.length c) zl := ⟨⟨hS5.gb.os.trans hS.gb.os, hS5.gb.tape.trans hS.gb.tape, hS5.gb.output.trans hS.gb.output, Nat.le_trans hS.gb.size hS5.gb.size, fun b hb hne => (hS5.gb.block b (Nat.lt_of_lt_of_le hb hS.gb.size) hne).trans (hS.gb.block b hb hne)⟩, hS.base, hS.lt0, hS5.c0, hS5.c1, hS5.fr, hS.rd, hS.wf⟩
      have hlt5 := hS5'.lt
      have hsz5 := hS5'.gb.size
      have HC := Lib.hid (all_snoc HVL.out (chkV_of (n := n) (s := s) hck hnn))
      have HD := Lib.hid (all_snoc (x := (⟨nul, n, s⟩ : Vl)) HBD.out (bd_wf hwf))
      clear hown hS hS5 hbx v0 v1 v2 v3 hck hwf hs3 hnn
      have HX2 := Lib.hid (RdL.lit w5 [⟨nul, n, s⟩] 1 23 (Nat.le_refl 1) (by decide))
      have HO := Lib.hid (hown5.alloc (.cells #[.bool nul, .int .i64 n, .string s] 23))
      have HSA := Lib.hid (hS5'.alloc (by omega) (.cells #[.bool nul, .int .i64 n, .string s] 23))
      have HL1 := Lib.hid (show l.length + [(⟨nul, n, s⟩ : Vl)].length ≤ 1000000 by simp only [List.length_cons, List.length_nil]; omega)
      have HL3 := Lib.hid (show W.heap.size + 1 + 1 ≤ (w5.alloc (.cells #[.bool nul, .int .i64 n, .string s] 23)).heap.size by simp; omega)
      clear hown5 hS5'
      go_wp2_with (at_builtin; refine wpl_appL rfl _ _ 27 rfl (W.heap.size + 1 + 1) 23 Try.underlying27 Try.infVal _ l rfl HO.out _ _ [⟨nul, n, s⟩] rfl HX2.out HL1.out HL3.out ?_)
      intro v' w' hown' hb' _
      go_wp2_with fail
      go_roundw
      case rel => exact ⟨k - 1, l ++ [⟨nul, n, s⟩], by go_num, by rw [List.length_append]; simp; omega, hown', HC.out, HD.out, HSA.out.of hb' (Nat.lt_succ_self _) (by omega)⟩
      case measure => simp [intOf] <;> omega
    · have hbx := HBX.out.trans (hS.below.mono (Nat.le_succ _))
      go_wp2
      go_ret
      exact KvP.mk rfl (hown.lower (by omega)) (by omega) HVL.out HBD.out hbx
set_option maxRecDepth 100000 in
set_option maxHeartbeats 400000 in
theorem column_any (t : Int) (nu : Bool) (w : World) (ht : (Lit.int .i64 t).wf = true) : Calls Try.prog 12 #[.int .i64 t, .bool nu] w (RetB ((.agg #[.string ⟨#[120]⟩, .int .i64 (1 + pickN t 5), .int .i64 0, .bool nu])) w) := by
  have HP := fun w => Lib.hid (pick_at t 5 w ht (by omega) (by omega))
  have hp := pickN_bd t (n := 5) (by omega)
  generalize pickN t 5 = p at *
  obtain ⟨p1, p2⟩ := hp
  have hw : wrap64 (1 + p) = 1 + p := by unfold wrap64; omega
  have hb : Below w.heap.size w (w.alloc (.cells #[.string ⟨#[120]⟩, .int .i64 (1 + p), .int .i64 0, .bool nu] 32)) := (Below.refl _ _).alloc (Nat.le_refl _) _
  go_enter Try.func12, Try.ntmps12
  go_wp2_with fail
  (with_reducible refine (HP _).out.mono ?_); rintro e w1 ⟨rfl, rfl⟩
  go_wp2
  refine bodyPost_ret (v := (.agg #[.string ⟨#[120]⟩, .int .i64 (1 + p), .int .i64 0, .bool nu])) (by simp [results, Try.results12, go_sem]) rfl ?_
  exact RetB.mk rfl hb
end Go.Proofs.Ythohmngckpjlbaa
