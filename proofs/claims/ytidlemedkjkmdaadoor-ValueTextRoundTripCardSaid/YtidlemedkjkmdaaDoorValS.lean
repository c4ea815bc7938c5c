/- strconv.FormatInt at base 10, by the shelf's contract; the table that it reads. Then package value's Format. -/
import Derived.Test.YtidlemedkjkmdaaDoorValF
import Derived.Test.YtidlemedkjkmdaaDoorShelf
import Derived.Lib.LaidTab
import Derived.Lib.LaidU8
import Derived.WalkSmall
namespace Go.VL
open Go.RowKit Go.VB Go.DT Go.DC
theorem sgrow_below {B : Nat} {a w : World} (h : Below B a w) (hB : B ≤ w.heap.size) (os : Array Obj) : Below B a (Sort.grow w os) :=
  h.trans ⟨rfl, rfl, rfl, by simp [Sort.grow], fun k hk => by simp only [Sort.grow]; rw [Array.getElem?_append_left (by omega)]⟩
/-- The text of a day. -/
def isDay (n : Int) (T : ByteArray) : Prop := ∃ y m d : Nat, okD y m d ∧ num y m d = n ∧ T = str (by8 (txt y m d))
noncomputable def DX (n : Int) : ByteArray := Classical.epsilon (isDay n)
theorem DX_day {n : Int} (h0 : -719162 ≤ n) (h1 : n ≤ 2932896) : isDay n (DX n) := by
  refine Classical.epsilon_spec (p := isDay n) ?_
  obtain ⟨y, m, d, hok, hn⟩ := day_of n h0 h1
  obtain ⟨y, rfl⟩ := Int.eq_ofNat_of_zero_le (by have := hok.1; omega : (0 : Int) ≤ y)
  obtain ⟨m, rfl⟩ := Int.eq_ofNat_of_zero_le (by have := hok.2.2.1; omega : (0 : Int) ≤ m)
  obtain ⟨d, rfl⟩ := Int.eq_ofNat_of_zero_le (by have := hok.2.2.2.2.1; omega : (0 : Int) ≤ d)
  exact ⟨_, y, m, d, hok, hn, rfl⟩
/-- The text of a value that is not null. -/
noncomputable def FT (ty sc n : Int) (s : ByteArray) : ByteArray :=
  if ty = 2 then (if n = 1 then ⟨#[116, 114, 117, 101]⟩ else ⟨#[102, 97, 108, 115, 101]⟩) else if ty = 3 then QT s else if ty = 4 then DX n else if ty = 5 then FN n sc else NT n
/-- What Format returns. -/
noncomputable def FG (ty sc : Int) (nu nul : Bool) (n : Int) (s : ByteArray) : ByteArray :=
  if okSc ty sc = true ∧ chk ty nu nul n s = 0 then (if nul then ⟨#[110, 117, 108, 108]⟩ else FT ty sc n s) else ⟨#[]⟩
def FGC (ty sc : Int) (nu nul : Bool) (n : Int) (s : ByteArray) : Nat := if okSc ty sc = true then chk ty nu nul n s else 1
noncomputable def FR (ty sc : Int) (nu nul : Bool) (n : Int) (s : ByteArray) : Value := .tuple #[.string (FG ty sc nu nul n s), .int .i64 (FGC ty sc nu nul n s : Nat)]
theorem FR_sc {ty sc : Int} {nu nul : Bool} {n : Int} {s : ByteArray} (h : okSc ty sc = false) : FR ty sc nu nul n s = .tuple #[.string ⟨#[]⟩, .int .i64 1] := by
  unfold FR FG FGC
  rw [if_neg (by rw [h]; simp), if_neg (by rw [h]; simp)]; rfl
theorem FR_bad {ty sc : Int} {nu nul : Bool} {n : Int} {s : ByteArray} (h : okSc ty sc = true) (h2 : chk ty nu nul n s ≠ 0) : FR ty sc nu nul n s = .tuple #[.string ⟨#[]⟩, .int .i64 (chk ty nu nul n s : Nat)] := by
  unfold FR FG FGC
  rw [if_neg (fun hk => h2 hk.2), if_pos h]
theorem FR_nul {ty sc : Int} {nu : Bool} {n : Int} {s : ByteArray} (h : okSc ty sc = true) (h2 : chk ty nu true n s = 0) : FR ty sc nu true n s = .tuple #[.string ⟨#[110, 117, 108, 108]⟩, .int .i64 0] := by
  unfold FR FG FGC
  rw [if_pos ⟨h, h2⟩, if_pos h, h2]; rfl
theorem FR_val {ty sc : Int} {nu : Bool} {n : Int} {s : ByteArray} (h : okSc ty sc = true) (h2 : chk ty nu false n s = 0) : FR ty sc nu false n s = .tuple #[.string (FT ty sc n s), .int .i64 0] := by
  unfold FR FG FGC
  rw [if_pos ⟨h, h2⟩, if_pos h, h2]; rfl
/-- What Check's answer 0 says of a value that is not null. -/
theorem chk_ok {ty : Int} {nu : Bool} {n : Int} {s : ByteArray} (h : chk ty nu false n s = 0) : okT ty = true ∧ (ty = 3 → n = 0) ∧ (ty ≠ 3 → s.size = 0) ∧ okP ty n s = true := by
  cases hT : okT ty with
  | false => rw [chk_ty hT] at h; cases h
  | true =>
    rw [chk_val hT] at h
    by_cases h1 : (ty = 3 ∧ n ≠ 0) ∨ (ty ≠ 3 ∧ s.size ≠ 0)
    · rw [if_pos h1] at h; cases h
    · rw [if_neg h1] at h
      refine ⟨rfl, fun e => ?_, fun e => ?_, ?_⟩
      · by_cases hn : n = 0
        · exact hn
        · exact absurd (.inl ⟨e, hn⟩) h1
      · by_cases hn : s.size = 0
        · exact hn
        · exact absurd (.inr ⟨e, hn⟩) h1
      · cases hp : okP ty n s with
        | true => rfl
        | false => rw [hp] at h; cases h
end Go.VL
namespace Go.Proofs.YtidlemedkjkmdaaDoor
open Go.RowKit Go.VB Go.VL Go.DT Go.DC
set_option linter.constructorNameAsVariable false
/-- The table of powers of ten, as the world holds it. -/
def TabOk (w : World) : Prop := Lib.TabIs Tryd.prog w "internal/strconv.uint64pow10" .u64 Lib.pow10Tab
theorem tab_num : Tryd.prog.globalNamed "internal/strconv.uint64pow10" = some 0 := by kernel_rfl
theorem TabOk.step {w w' : World} (h : TabOk w) (hb : Below w.heap.size w w') : TabOk w' := by
  have hc : w.cell? ⟨0, 0, none⟩ = _ := Lib.TabIs.cell h tab_num 0 (by decide)
  exact var?_below hb tab_num (World.block_lt_of_cell? w _ hc) h
theorem fInt_any (n : Int) (w : World) (wn : (Lit.int .i64 n).wf = true) (ht : TabOk w) : Calls Tryd.prog 19 #[.int .i64 n, .int .i64 10] w (RetB (.string (NT n)) w) := by
  have hx := bounds_i64 wn
  refine (Any.strconv_FormatInt_10 Tryd.lays173 n hx.1 hx.2 w ht).mono ?_
  rintro e w' ⟨rfl, k, os, rfl⟩
  exact RetB.mk rfl (sgrow_below (Go.below_drewN (Below.refl _ _) k) (by show w.heap.size ≤ (w.drewN k).heap.size; exact (Go.below_drewN (Below.refl w.heap.size w) k).size) os)
set_option maxRecDepth 100000 in
set_option maxHeartbeats 4000000 in
theorem vFormat_any (nm : ByteArray) (ty sc : Int) (nu nul : Bool) (n : Int) (s : ByteArray) (W : World) (wn : (Lit.int .i64 n).wf = true) (ht : TabOk W) :
    Calls Tryd.prog 6 #[(.agg #[.string nm, .int .i64 ty, .int .i64 sc, .bool nu]), (.agg #[.bool nul, .int .i64 n, .string s])] W (RetB (FR ty sc nu nul n s) W) := by
  have HS := fun w => Lib.hid (hasSc_any nm ty sc nu w)
  have HK := fun w => Lib.hid (chk_any nm ty sc nu nul n s w)
  have hV4 := Var4.new W (.string nm) (.int .i64 ty) (.int .i64 sc) (.bool nu) 26
  have hV3 := Var3.new (W.alloc (.cells #[.string nm, .int .i64 ty, .int .i64 sc, .bool nu] 26)) (.bool nul) (.int .i64 n) (.string s) 28
  replace hV4 := hV4.step ((Below.refl _ _).alloc (Nat.le_refl _) (.cells #[.bool nul, .int .i64 n, .string s] 28))
  have hB : Below W.heap.size W ((W.alloc (.cells #[.string nm, .int .i64 ty, .int .i64 sc, .bool nu] 26)).alloc (.cells #[.bool nul, .int .i64 n, .string s] 28)) := by go_grown
  rw [show (W.alloc (.cells #[.string nm, .int .i64 ty, .int .i64 sc, .bool nu] 26)).heap.size = W.heap.size + 1 from by simp] at hV3
  have HT := Lib.hid ht
  have HN := Lib.hid wn
  have HR1 := fun h => Lib.hid (FR_sc (ty := ty) (sc := sc) (nu := nu) (nul := nul) (n := n) (s := s) h)
  have HR2 := fun h h2 => Lib.hid (FR_bad (ty := ty) (sc := sc) (nu := nu) (nul := nul) (n := n) (s := s) h h2)
  have HR3 := fun h h2 => Lib.hid (FR_nul (ty := ty) (sc := sc) (nu := nu) (n := n) (s := s) h h2)
  have HR4 := fun h h2 => Lib.hid (FR_val (ty := ty) (sc := sc) (nu := nu) (n := n) (s := s) h h2)
  have HC := fun h => Lib.hid (chk_ok (ty := ty) (nu := nu) (n := n) (s := s) h)
  have HSC := Lib.hid (show okSc ty sc = decide (ty ≠ 5 ∨ (0 ≤ sc ∧ sc ≤ 18)) from rfl)
  clear ht wn
  go_enter Tryd.func6, Tryd.ntmps6
  go_wp2_with fail
  refine (HS _).out.mono ?_
  rintro e w1 ⟨rfl, hb1⟩
  replace hV4 := hV4.step hb1
  replace hV3 := hV3.step hb1
  replace hB := bel_trans hB hb1
  clear hb1 HS
  by_cases hS : okSc ty sc = false
  · have HR := HR1 hS
    rw [hS]
    generalize FR ty sc nu nul n s = R at *
    clear HR1 HR2 HR3 HR4 HC HSC HK hV3 hV4 hS
    go_wp2
    go_ret2
    exact RetB.mk (by rw [HR.out]; rfl) hB
  have hS' : okSc ty sc = true := by simpa using hS
  replace HR2 := HR2 hS'
  replace HR3 := HR3 hS'
  replace HR4 := HR4 hS'
  have HSC2 := Lib.hid (show ty ≠ 5 ∨ (0 ≤ sc ∧ sc ≤ 18) from of_decide_eq_true (by rw [← HSC.out]; exact hS'))
  rw [hS']
  clear hS HR1 hS' HSC
  have hV := fun (w : World) (hb : Below w1.heap.size w1 w) => Lib.hid (And.intro (bel_trans hB hb) (And.intro (hV4.step hb) (hV3.step hb)))
  obtain ⟨k0, k1, k2, k3⟩ := hV4
  obtain ⟨m0, m1, m2, f0, f1, f2⟩ := hV3
  go_wp2_with fail
  refine (HK _).out.mono ?_
  rintro e w2 ⟨rfl, hb2⟩
  clear k0 k1 k2 k3 m0 m1 m2 f0 f1 f2 HK
  obtain ⟨hB2, ⟨k0, k1, k2, k3⟩, m0, m1, m2, f0, f1, f2⟩ := (hV w2 hb2).out
  clear hV hb2 hB
  by_cases hk : chk ty nu nul n s = 0
  · rw [hk]
    cases nul with
    | true =>
      have HR := HR3 hk
      generalize FR ty sc nu true n s = R at *
      clear HR2 HR3 HR4 HC HSC2 hk
      go_wp2
      go_ret2
      exact RetB.mk (by rw [HR.out]; rfl) hB2
    | false =>
      have HR := HR4 hk
      obtain ⟨hT, h3, h4, hp⟩ := (HC hk).out
      generalize FR ty sc nu false n s = R at *
      have h5 := okT_five hT
      clear HR2 HR3 HR4 HC hk hT
      have HT2 := Lib.hid (HT.out.step hB2)
      rcases h5 with rfl | rfl | rfl | rfl | rfl
      · have HF := Lib.hid (fInt_any n w2 HN.out HT2.out)
        rw [show FT 1 sc n s = NT n from rfl] at HR
        generalize NT n = T at *
        clear h3 h4 hp HSC2 HT HT2 HN
        go_wp2_with fail
        refine HF.out.mono ?_
        rintro e w3 ⟨rfl, hb3⟩
        go_wp2
        go_ret2
        exact RetB.mk (by rw [HR.out]; rfl) (bel_trans hB2 hb3)
      · have HF := Lib.hid (fBool_any n w2)
        rw [show FT 2 sc n s = (if n = 1 then ⟨#[116, 114, 117, 101]⟩ else ⟨#[102, 97, 108, 115, 101]⟩) from rfl] at HR
        generalize (if n = 1 then (⟨#[116, 114, 117, 101]⟩ : ByteArray) else ⟨#[102, 97, 108, 115, 101]⟩) = T at *
        clear h3 h4 hp HSC2 HT HT2 HN
        go_wp2_with (go_at_call 15; refine HF.out.mono ?_; rintro e w3 ⟨rfl, rfl⟩)
        go_ret2
        exact RetB.mk (by rw [HR.out]; rfl) hB2
      · have hs : s.size ≤ 64 := of_decide_eq_true hp
        have HF := Lib.hid (fBytes_any s w2 hs)
        rw [show FT 3 sc n s = QT s from rfl] at HR
        generalize QT s = T at *
        clear h3 h4 hp HSC2 HT HT2 HN hs
        go_wp2_with fail
        refine HF.out.mono ?_
        rintro e w3 ⟨rfl, hb3⟩
        go_wp2
        go_ret2
        exact RetB.mk (by rw [HR.out]; rfl) (bel_trans hB2 hb3)
      · have hs : -719162 ≤ n ∧ n ≤ 2932896 := of_decide_eq_true hp
        obtain ⟨y, m, d, hok, hn, hT⟩ := DX_day hs.1 hs.2
        have HF := Lib.hid (format_at n y m d w2 hok hn)
        rw [show FT 4 sc n s = DX n from rfl, hT] at HR
        generalize str (by8 (txt y m d)) = T at *
        clear h3 h4 hp HSC2 HT HT2 HN hs hok hn hT
        go_wp2_with fail
        refine HF.out.mono ?_
        rintro e w3 ⟨rfl, hb3⟩
        go_wp2
        go_ret2
        exact RetB.mk (by rw [HR.out]; rfl) (bel_trans hB2 hb3)
      · have hs : -999999999999999999 ≤ n ∧ n ≤ 999999999999999999 := of_decide_eq_true hp
        have hok : okN n ∧ okS sc := ⟨hs, by rcases HSC2.out with h | h; exact absurd rfl h; exact h⟩
        have HF := Lib.hid (format_any n sc w2)
        rw [FC_in hok] at HF
        rw [show FT 5 sc n s = FN n sc from rfl] at HR
        generalize FN n sc = T at *
        clear h3 h4 hp HSC2 HT HT2 HN hs hok
        go_wp2_with fail
        refine HF.out.mono ?_
        rintro e w3 ⟨rfl, hb3⟩
        go_wp2
        go_ret2
        exact RetB.mk (by rw [HR.out]; rfl) (bel_trans hB2 hb3)
  · have HR := HR2 hk
    have h0 : ((chk ty nu nul n s : Int) != 0) = true := ine_t (by omega)
    generalize FR ty sc nu nul n s = R at *
    clear HR2 HR3 HR4 HC HSC2 hk
    generalize chk ty nu nul n s = k at *
    go_wp2
    go_ret2
    exact RetB.mk (by rw [HR.out]; rfl) hB2
end Go.Proofs.YtidlemedkjkmdaaDoor
