/- The statements' own makers of rows and records: row, Rows. -/
import Derived.Test.YtjbkeipagdmlpaaBt6
import Derived.Test.YtjbkeipagdmlpaaKvals
import Derived.Test.YtjbkeipagdmlpaaSchG
import Derived.Test.YtjbkeipagdmlpaaBt7b
import Derived.Deep.RegionWith
namespace Go.RS
open Go.RowKit Go.VB Go.VS Go.SC Go.CK Go.ST Go.MK
section
variable {w0 w w' : World} {B B2 g base : Nat} {sv : Value} {zl : List Int}
theorem own_srcG {e : TypeId} {s n : Nat} {v : Value} {xs : List Value} (hs : Go.KV.Src w0 w B g sv zl) (h : w0.ownsRow base e s v n xs) (hg : g < base) : w.ownsRow base e s v n xs := by
  refine World.ownsRow.kept (row := some g) h ⟨hs.gb.os, hs.gb.tape, hs.gb.output, hs.gb.size, fun k hk hne => hs.gb.block k hk (fun e0 => hne (by rw [e0]))⟩ (.inr fun e0 => ?_)
  have := (World.ownsRow.lt h g e0).1
  omega
theorem DeepLO.src {e : TypeId} {ps : List Sl} {ls : List (List Vl)} (hs : Go.KV.Src w0 w B g sv zl) (h : DeepLO e w0 base ps ls) (hg : g < base) : DeepLO e w base ps ls := ⟨h.1, fun i p r h1 h2 => own_srcG hs (h.2 i p r h1 h2) hg⟩
theorem DeepO.src {e : TypeId} {ps : List Rs} {l : List Rc} (hs : Go.KV.Src w0 w B g sv zl) (h : DeepO e w0 base ps l) (hg : g < base) : DeepO e w base ps l := ⟨h.1, fun i p r h1 h2 => ⟨(h.2 i p r h1 h2).1, own_srcG hs (h.2 i p r h1 h2).2 hg⟩⟩
theorem src_join (h1 : Go.KV.Src w0 w B g sv zl) (h2 : Go.KV.Src w w' B2 g sv zl) : Go.KV.Src w0 w' B g sv zl :=
  ⟨⟨h2.gb.os.trans h1.gb.os, h2.gb.tape.trans h1.gb.tape, h2.gb.output.trans h1.gb.output, Nat.le_trans h1.gb.size h2.gb.size, fun b hb hne => (h2.gb.block b (Nat.lt_of_lt_of_le hb h1.gb.size) hne).trans (h1.gb.block b hb hne)⟩, h1.base, h1.lt0, h2.c0, h2.c1, h2.fr, h1.rd, h1.wf⟩
end
/-- A valid row of its own; the source stands. -/
def KRow (e : TypeId) (cs : List Col) (w : World) (g : Nat) (v : Value) (zl : List Int) : Ending → World → Prop := fun en w' => ∃ u l, en = .returned u ∧ OwnL e w' w.heap.size u l ∧ chkRow cs l = 0 ∧ Go.KV.Src w w' g g v zl
theorem KRow.mk {e : TypeId} {cs : List Col} {w w' : World} {g : Nat} {v : Value} {zl : List Int} {x u : Value} {l : List Vl} (hx : x = u) (ho : OwnL e w' w.heap.size u l) (hl : chkRow cs l = 0) (hs : Go.KV.Src w w' g g v zl) : KRow e cs w g v zl (.returned x) w' := ⟨u, l, by rw [hx], ho, hl, hs⟩
/-- A choice below n; the source stands. -/
def SnP (w : World) (g : Nat) (v : Value) (zl : List Int) (n : Int) : Ending → World → Prop := fun en w' => ∃ r : Nat, en = .returned (.int .i64 (r : Int)) ∧ (r : Int) < n ∧ Go.KV.Src w w' g g v zl
theorem chk_snoc {cs : List Col} {l : List Vl} {x : Vl} (h : ∀ (k : Nat) (y : Vl), l[k]? = some y → chkV (cs.getD k col0).ty (cs.getD k col0).nu y = 0) (hx : chkV (cs.getD l.length col0).ty (cs.getD l.length col0).nu x = 0) :
    ∀ (k : Nat) (y : Vl), (l ++ [x])[k]? = some y → chkV (cs.getD k col0).ty (cs.getD k col0).nu y = 0 := by
  intro k y hy
  by_cases hk : k < l.length
  · rw [List.getElem?_append_left hk] at hy; exact h k y hy
  · rw [List.getElem?_append_right (by omega)] at hy
    have : k - l.length = 0 := by
      have := (List.getElem?_eq_some_iff.1 hy).1
      simp at this; omega
    rw [this] at hy
    simp at hy
    subst hy
    rw [show k = l.length by omega]; exact hx
end Go.RS
namespace Go.Proofs.Ytjbkeipagdmlpaa
open Go.RowKit Go.VB Go.VS Go.SC Go.CK Go.ST Go.MK Go.RS
set_option linter.constructorNameAsVariable false
theorem snx_any (w0 w : World) (B g : Nat) (v : Value) (zl : List Int) (n : Int) (hs : Go.KV.Src w0 w B g v zl) (hB : B = g) (hn : 1 ≤ n) (hn2 : n ≤ 4611686018427387904) :
    Calls Try.prog 39 #[.pointer (some ⟨g, 0, none⟩), .int .i64 n] w (SnP w g v zl n) := by
  subst hB
  have h := snext_any w w [] B B v zl n hs.again hn hn2
  change Calls _ _ _ w _ at h
  refine h.mono ?_
  rintro e w2 ⟨r, wy, rfl, ⟨ra, rb⟩, hS2, -, rfl⟩
  exact ⟨r.toNat, by rw [Int.toNat_of_nonneg ra], by omega, hS2⟩
set_option maxRecDepth 100000 in
set_option maxHeartbeats 1000000 in
theorem krow_any (cs : List Col) (sv : Value) (key : Int) (w : World) (g : Nat) (v : Value) (zl : List Int) (hs : Go.KV.Src w w g g v zl) (hS : RdC w g sv cs) (h12 : cs.length ≤ 12) (hty : ∀ i, i < cs.length → Go.VL.okT (cs.getD i col0).ty = true) :
    Calls Try.prog 40 #[.pointer (some ⟨g, 0, none⟩), .agg #[sv, .int .i64 key]] w (KRow 32 cs w g v zl) := by
  have hK : ∀ (w : World) (nm : ByteArray) (ty sc : Int) (nu : Bool), Go.KV.Src w w g g v zl → 1 ≤ ty ∧ ty ≤ 5 → Hid (Calls Try.prog 56 #[.pointer (some ⟨g, 0, none⟩), (.agg #[.string nm, .int .i64 ty, .int .i64 sc, .bool nu])] w (Go.KV.RetS (fun nul n s => Go.KV.VOK ty nul n s ∧ (nul = true → nu = true)) w g g v zl)) := fun w nm ty sc nu hs hty => by
    cases nu
    · exact Lib.hid (sval_false w w g g v zl nm ty sc hs hty)
    · exact Lib.hid (sval_true w w g g v zl nm ty sc hs hty)
  have hlt0 := hs.lt0
  obtain ⟨A, c, rfl, hc, hm, hrr⟩ := hS
  unfold maxLen at hm
  obtain ⟨m, hm0⟩ : ∃ m, cs.length = m := ⟨_, rfl⟩
  rw [hm0] at hc h12 hrr hty ⊢
  have HM := Lib.hid hm0
  have HC := Lib.hid hrr; have HT := Lib.hid hty
  have hs1 := hs.alloc (by omega) (.cells #[.slice A m c, .int .i64 key] 28)
  have HS0 := Lib.hid hs1
  have HSZ := Lib.hid (show (w.alloc (.cells #[.slice A m c, .int .i64 key] 28)).heap.size = w.heap.size + 1 by simp)
  clear hs hrr hty hm0 hs1
  go_enter Try.func40, Try.ntmps40
  go_wp2
  go_loopw [5, 7, 11] (fun ov _ iv wr => ∃ (j : Nat) (l : List Vl), iv = .int .i64 j ∧ j ≤ m ∧ OwnL 32 wr (w.heap.size + 1) ov l ∧ Hid (l.length = j) ∧ Hid (∀ (k : Nat) (y : Vl), l[k]? = some y → chkV (cs.getD k col0).ty (cs.getD k col0).nu y = 0) ∧ Go.KV.Src w wr g g v zl ∧ w.heap.size + 1 ≤ wr.heap.size) (fun _ _ iv _ => m - (intOf iv).toNat)
  case atStart => exact ⟨0, [], rfl, Nat.zero_le _, OwnL.nil _ _ _, Lib.hid rfl, Lib.hid (fun k y h => by simp at h), HS0.out, by rw [HSZ.out]; omega⟩
  case round =>
    clear HS0
    obtain ⟨j, l, rfl, hj, hown, HL, HV, hS, hsz⟩ := hrel
    by_cases hlt : j < m
    case neg =>
      have hd0 : decide ((j : Int) < (m : Int)) = false := decide_eq_false (by omega)
      have HF := Lib.hid (show chkRow cs l = 0 from chkRow_none (by rw [HL.out, HM.out]; omega) HV.out)
      clear HV HC HT
      go_wp2
      go_ret
      exact KRow.mk rfl (hown.lower (Nat.le_succ _)) HF.out hS
    have hd0 : decide ((j : Int) < (m : Int)) = true := decide_eq_true (by omega)
    have hd0' : decide (j < m) = true := decide_eq_true hlt
    obtain ⟨ad, rfl, hab, hat⟩ := HC.out j hlt
    obtain ⟨q0, q1, q2, q3⟩ := hat.below hS.below hab
    have hok := HT.out j hlt
    have HVJ := Lib.hid (fun (x : Vl) (h : chkV (cs.getD j col0).ty (cs.getD j col0).nu x = 0) => chk_snoc (x := x) HV.out (by rw [HL.out]; exact h))
    obtain ⟨C, hC⟩ : ∃ C, cs.getD j col0 = C := ⟨_, rfl⟩
    rw [hC] at q0 q1 q2 q3 hok HVJ
    obtain ⟨nm, ty, sc, nu⟩ := C
    simp only at q0 q1 q2 q3 hok HVJ
    have hty5 : 1 ≤ ty ∧ ty ≤ 5 := of_decide_eq_true hok
    have hSv := hS.alloc (by have := hS.lt; omega) (.cells #[.string nm, .int .i64 ty, .int .i64 sc, .bool nu] 66)
    have HOv := Lib.hid (hown.alloc (.cells #[.string nm, .int .i64 ty, .int .i64 sc, .bool nu] 66))
    have HVAL := Lib.hid (hK _ nm ty sc nu hSv.again hty5).out
    have HSV := Lib.hid hSv
    have hszv : w.heap.size + 1 ≤ (wr.alloc (.cells #[.string nm, .int .i64 ty, .int .i64 sc, .bool nu] 66)).heap.size := by simp; omega
    have HSZV := Lib.hid hszv
    clear hK hSv hat hok hty5 hC hown hS hszv HV
    go_wp2_with fail
    (with_reducible refine HVAL.out.mono ?_); rintro e w5 ⟨nul, n, s, rfl, ⟨⟨hck, -, -⟩, hnn⟩, hS5⟩
    have ho5 := own_srcG hS5 HOv.out (show g < w.heap.size + 1 by omega)
    have HS6 := Lib.hid (src_join HSV.out hS5)
    have hsz5 := hS5.gb.size
    have HCK := Lib.hid (HVJ.out ⟨nul, n, s⟩ (chkV_of hck hnn))
    have HX2 := Lib.hid (RdK.lit (L := valL) w5 [⟨nul, n, s⟩] 1 32 (Nat.le_refl 1) (by decide))
    have HO := Lib.hid (ownL_K (OwnL.alloc (show OwnL 32 w5 (w.heap.size + 1) _ l from ho5) (.cells #[.bool nul, .int .i64 n, .string s] 32)))
    have HSA := Lib.hid (HS6.out.alloc (by have := HS6.out.lt; omega) (.cells #[.bool nul, .int .i64 n, .string s] 32))
    have HL3 := Lib.hid (show w.heap.size + 1 ≤ (w5.alloc (.cells #[.bool nul, .int .i64 n, .string s] 32)).heap.size by have := HSZV.out; simp; omega)
    have hll : l.length ≤ 12 := by rw [HL.out]; omega
    have HL1 := Lib.hid (show l.length + [(⟨nul, n, s⟩ : Vl)].length ≤ maxLen by unfold maxLen; simp only [List.length_cons, List.length_nil]; omega)
    have HL2 := Lib.hid (show (l.length + [(⟨nul, n, s⟩ : Vl)].length) * 32 ≤ 140737488355328 by simp only [List.length_cons, List.length_nil]; omega)
    clear ho5 hS5 HSV HOv HVAL hck hnn hll HS6
    go_wp2_with (at_builtin; refine wpl_appK (L := valL) rfl _ _ 36 rfl (w.heap.size + 1) 32 32 Try.underlying36 Try.infVal _ l rfl HO.out _ _ [⟨nul, n, s⟩] rfl HX2.out HL1.out HL2.out HL3.out ?_)
    intro v' w' hown' hb' _
    have HSN := Lib.hid (HSA.out.of hb' (by omega) (by omega))
    have HSS := Lib.hid (Nat.le_trans HL3.out hb'.size)
    clear hb' HSA
    go_wp2_with fail
    go_roundw
    all_goals first
      | exact ⟨j + 1, l ++ [⟨nul, n, s⟩], by go_num, hlt, ownK_L hown', Lib.hid (by rw [List.length_append, HL.out]; rfl), HCK, HSN.out, HSS.out⟩
      | (simp [intOf]; omega)
end Go.Proofs.Ytjbkeipagdmlpaa

namespace Go.RS
open Go.RowKit Go.VB Go.VS Go.SC Go.CK Go.ST Go.MK
/-- Valid rows of its own, at most N. -/
def RowsP (eS eV : TypeId) (cs : List Col) (N : Nat) (w : World) : Ending → World → Prop := fun en w' => ∃ u ps ls, en = .returned u ∧ OwnV Sl.val eS w' w.heap.size u ps ∧ DeepLO eV w' w.heap.size ps ls ∧ ls.length ≤ N ∧ (∀ r ∈ ls, chkRow cs r = 0) ∧ Below w.heap.size w w'
theorem RowsP.mk {eS eV : TypeId} {cs : List Col} {N : Nat} {w w' : World} {x u : Value} {ps : List Sl} {ls : List (List Vl)} (hx : x = u) (h1 : OwnV Sl.val eS w' w.heap.size u ps) (h2 : DeepLO eV w' w.heap.size ps ls) (h3 : ls.length ≤ N) (h4 : ∀ r ∈ ls, chkRow cs r = 0) (h5 : Below w.heap.size w w') :
    RowsP eS eV cs N w (.returned x) w' := ⟨u, ps, ls, by rw [hx], h1, h2, h3, h4, h5⟩
/-- Valid records, at most N. -/
def LooseP (eR eV : TypeId) (cs : List Col) (N : Nat) (w : World) : Ending → World → Prop := fun en w' => ∃ u l, en = .returned u ∧ OwnRs eR eV w' w.heap.size u l ∧ l.length ≤ N ∧ (∀ r ∈ l, okRec cs r = true) ∧ Below w.heap.size w w'
theorem LooseP.mk {eR eV : TypeId} {cs : List Col} {N : Nat} {w w' : World} {x u : Value} {l : List Rc} (hx : x = u) (h1 : OwnRs eR eV w' w.heap.size u l) (h3 : l.length ≤ N) (h4 : ∀ r ∈ l, okRec cs r = true) (h5 : Below w.heap.size w w') :
    LooseP eR eV cs N w (.returned x) w' := ⟨u, l, by rw [hx], h1, h3, h4, h5⟩
/-- Valid records with ascending numbers, sorted. -/
def RecsP (cs : List Col) (key : Int) (N : Nat) (w : World) : Ending → World → Prop := fun en w' => ∃ u l, en = .returned u ∧ RdR w' w'.heap.size u (sortR cs key l) ∧ l.length ≤ N ∧ (∀ r ∈ l, okRec cs r = true) ∧ (l.Pairwise fun a b => a.seq < b.seq) ∧ Below w.heap.size w w'
theorem all_snocG {α : Type} {p : α → Prop} {l : List α} {x : α} (h : ∀ y ∈ l, p y) (hx : p x) : ∀ y ∈ l ++ [x], p y := by
  intro y hy
  rcases List.mem_append.1 hy with hy | hy
  · exact h y hy
  · rw [List.mem_singleton.1 hy]; exact hx
end Go.RS
namespace Go.Proofs.Ytjbkeipagdmlpaa
open Go.RowKit Go.VB Go.VS Go.SC Go.CK Go.ST Go.MK Go.RS
set_option linter.constructorNameAsVariable false
set_option maxRecDepth 100000 in
set_option maxHeartbeats 1000000 in
theorem krows_any (W : World) (cs : List Col) (sv : Value) (key : Int) (v : Value) (zl : List Int) (N : Nat) (hN : N ≤ 100) (hS : RdC W W.heap.size sv cs) (h12 : cs.length ≤ 12) (hty : ∀ i, i < cs.length → Go.VL.okT (cs.getD i col0).ty = true)
    (hr : RdI .i64 W W.heap.size v zl) (hw : ∀ z ∈ zl, (Lit.int .i64 z).wf = true) :
    Calls Try.prog 14 #[.agg #[sv, .int .i64 key], v, .int .i64 (N : Int)] W (RowsP 36 32 cs N W) := by
  obtain ⟨A, c, rfl, hc, hm, hrr⟩ := hr
  have hr : RdI .i64 W W.heap.size (.slice A zl.length c) zl := ⟨A, c, rfl, hc, hm, hrr⟩
  have HB1 := Lib.hid ((Below.refl W.heap.size W).alloc (Nat.le_refl _) (.cells #[sv, .int .i64 key] 28))
  have HS1 := Lib.hid (show (W.alloc (.cells #[sv, .int .i64 key] 28)).heap.size = W.heap.size + 1 from by simp)
  have HV := Lib.hid (Var2.new W sv (.int .i64 key) 28)
  have HF := fun w => Lib.hid (sfrom_any A zl.length c w)
  have HR1 := Lib.hid (hr.step HB1.out)
  have hS0 := Go.KV.Src.made HR1.out hw 79
  rw [HS1.out] at hS0
  have hVX := HV.out.step ((Below.refl _ _).alloc (Nat.le_refl _) (.cells #[.slice A zl.length c, .int .i64 0] 79))
  have hBX := HB1.out.alloc (by rw [HS1.out]; omega) (.cells #[.slice A zl.length c, .int .i64 0] 79)
  have HSC := Lib.hid hS; have HTY := Lib.hid hty
  clear hr hrr hc hm hw hS hty
  go_enter Try.func14, Try.ntmps14
  go_wp2_with fail
  (with_reducible refine (HF _).out.mono ?_); rintro e w1 ⟨rfl, rfl⟩
  rw [HS1.out]
  have hXs : ((W.alloc (.cells #[sv, .int .i64 key] 28)).alloc (.cells #[.slice A zl.length c, .int .i64 0] 79)).heap.size ≤ W.heap.size + 1 + 1 := by simp
  generalize ((W.alloc (.cells #[sv, .int .i64 key] 28)).alloc (.cells #[.slice A zl.length c, .int .i64 0] 79)) = X at *
  have HNx := Lib.hid (snx_any X X _ (W.heap.size + 1) (.slice A zl.length c) zl ((N : Int) + 1) hS0 rfl (by omega) (by omega))
  go_wp2_with fail
  (with_reducible refine HNx.out.mono ?_)
  rintro e w2 ⟨r, rfl, hrN, hS2⟩
  have HVX := Lib.hid hVX; have HBX := Lib.hid hBX
  have hx1 := hS0.lt0
  clear hVX hBX hS0 HNx
  go_wp2_with fail
  go_loopw [8, 9] (fun ov kv wr => ∃ (k : Nat) (ps : List Sl) (ls : List (List Vl)), kv = .int .i64 k ∧ ls.length + k ≤ N ∧ OwnV Sl.val 36 wr (W.heap.size + 1 + 1) ov ps ∧ Hid (DeepLO 32 wr (W.heap.size + 1 + 1) ps ls) ∧ Hid (∀ r ∈ ls, chkRow cs r = 0) ∧ Go.KV.Src X wr (W.heap.size + 1) (W.heap.size + 1) (.slice A zl.length c) zl) (fun _ kv _ => (intOf kv).toNat)
  case atStart => exact ⟨r, [], [], rfl, by simp; omega, OwnV.nil _ _ _ _, Lib.hid (DeepLO.nil _ _ _), Lib.hid (fun _ h => by simp at h), hS2⟩
  case round =>
    clear hS2 hrN
    obtain ⟨k, ps, ls, rfl, hlk, hown, HD, HC, hS⟩ := hrel
    have hbx := hS.below
    have hbW : Below W.heap.size W wr := HBX.out.trans (hbx.mono (Nat.le_succ _))
    by_cases hk : 0 < k
    case neg =>
      have hd0 : decide ((0 : Int) < (k : Int)) = false := decide_eq_false (by omega)
      have HD2 := Lib.hid (HD.out.lower (show W.heap.size ≤ W.heap.size + 1 + 1 by omega))
      go_wp2
      go_ret
      exact RowsP.mk rfl (hown.lower (by omega)) HD2.out (by omega) HC.out hbW
    have hd0 : decide ((0 : Int) < (k : Int)) = true := decide_eq_true (by omega)
    have hd0' : decide (0 < k) = true := decide_eq_true hk
    obtain ⟨v0, v1, -, -⟩ := HVX.out.below hbx (Nat.lt_succ_self _)
    have HROW := Lib.hid (krow_any cs sv key wr (W.heap.size + 1) _ zl hS.again ((HSC.out.below hbW).more (Nat.le_succ _)) h12 HTY.out)
    have HS := Lib.hid hS; have HOW := Lib.hid hown
    have hsz := hS.gb.size
    clear hown hS hbx
    go_wp2_with fail
    (with_reducible refine HROW.out.mono ?_); rintro e w5 ⟨u, l, rfl, ho, hck, hS5⟩
    obtain ⟨sA, sn, sc, rfl⟩ := ownL_sl ho
    have hs5 := hS5.gb.size
    have hX2 : W.heap.size + 1 + 1 ≤ wr.heap.size := by have := HS.out.lt; omega
    have hbl := (Below.refl w5.heap.size w5).alloc (Nat.le_refl _) (.cells #[.slice sA sn sc] 36)
    have HO1 := Lib.hid (OwnV.alloc (show OwnV Sl.val 36 w5 (W.heap.size + 1 + 1) _ ps from own_srcG hS5 HOW.out (Nat.lt_succ_self _)) (.cells #[.slice sA sn sc] 36))
    have HP1 := Lib.hid ((ho.lower hX2).below hbl)
    have HD1 := Lib.hid ((DeepLO.src hS5 HD.out (Nat.lt_succ_self _)).below hbl)
    have HRD := Lib.hid (RdV.one Sl.val w5 (⟨sA, sn, sc⟩ : Sl) 1 36 (Nat.le_refl 1) (by decide))
    have HLE := Lib.hid (show W.heap.size + 1 + 1 ≤ (w5.alloc (.cells #[.slice sA sn sc] 36)).heap.size by have := hbl.size; omega)
    have HSA := Lib.hid ((src_join HS.out hS5).alloc (by omega) (.cells #[.slice sA sn sc] 36))
    have HCN := Lib.hid (all_snocG (p := fun r => chkRow cs r = 0) HC.out hck)
    have hpl : ps.length ≤ 100 := by rw [HD.out.1]; omega
    have HPL1 := Lib.hid (show ps.length + [(⟨sA, sn, sc⟩ : Sl)].length ≤ maxLen by unfold maxLen; simp only [List.length_cons, List.length_nil]; omega)
    have HPL2 := Lib.hid (show (ps.length + [(⟨sA, sn, sc⟩ : Sl)].length) * 24 ≤ 140737488355328 by simp only [List.length_cons, List.length_nil]; omega)
    clear hS5 hbl ho hck hpl HROW HOW HS HD HC v0 v1
    go_wp2_with (at_builtin; refine wpl_appV (f := Sl.val) (fun _ => rfl) (.slice none 0 0) rfl rfl _ _ 29 rfl (W.heap.size + 1 + 1) 36 24 Try.underlying29 Try.infSl _ ps rfl HO1.out _ _ [⟨sA, sn, sc⟩] rfl HRD.out HPL1.out HPL2.out HLE.out ?_)
    intro v' w' hown' hb' hg'
    have HDN := Lib.hid ((HD1.out.keep HO1.out (by decide) hg').snoc (p := ⟨sA, sn, sc⟩) (HP1.out.keep hg' (own_apart HP1.out HO1.out (by decide))))
    have HSN := Lib.hid (HSA.out.of hb' (Nat.lt_succ_self _) (by omega))
    clear hb' hg' HD1 HP1 HO1 HSA
    go_wp2_with fail
    go_roundw
    all_goals first
      | exact ⟨k - 1, _, _, by go_num, by rw [List.length_append]; simp; omega, hown', HDN, HCN, HSN.out⟩
      | (simp [intOf]; omega)
set_option maxRecDepth 100000 in
set_option maxHeartbeats 1000000 in
theorem kloose_any (W : World) (cs : List Col) (sv : Value) (key : Int) (v : Value) (zl : List Int) (N : Nat) (hN : N ≤ 100) (hS : RdC W W.heap.size sv cs) (h12 : cs.length ≤ 12) (hty : ∀ i, i < cs.length → Go.VL.okT (cs.getD i col0).ty = true)
    (hr : RdI .i64 W W.heap.size v zl) (hw : ∀ z ∈ zl, (Lit.int .i64 z).wf = true) :
    Calls Try.prog 19 #[.agg #[sv, .int .i64 key], v, .int .i64 (N : Int)] W (LooseP 41 32 cs N W) := by
  obtain ⟨A, c, rfl, hc, hm, hrr⟩ := hr
  have hr : RdI .i64 W W.heap.size (.slice A zl.length c) zl := ⟨A, c, rfl, hc, hm, hrr⟩
  have HB1 := Lib.hid ((Below.refl W.heap.size W).alloc (Nat.le_refl _) (.cells #[sv, .int .i64 key] 28))
  have HS1 := Lib.hid (show (W.alloc (.cells #[sv, .int .i64 key] 28)).heap.size = W.heap.size + 1 from by simp)
  have HV := Lib.hid (Var2.new W sv (.int .i64 key) 28)
  have HF := fun w => Lib.hid (sfrom_any A zl.length c w)
  have HR1 := Lib.hid (hr.step HB1.out)
  have hS0 := Go.KV.Src.made HR1.out hw 79
  rw [HS1.out] at hS0
  have hVX := HV.out.step ((Below.refl _ _).alloc (Nat.le_refl _) (.cells #[.slice A zl.length c, .int .i64 0] 79))
  have hBX := HB1.out.alloc (by rw [HS1.out]; omega) (.cells #[.slice A zl.length c, .int .i64 0] 79)
  have HSC := Lib.hid hS; have HTY := Lib.hid hty
  clear hr hrr hc hm hw hS hty
  go_enter Try.func19, Try.ntmps19
  go_wp2_with fail
  (with_reducible refine (HF _).out.mono ?_); rintro e w1 ⟨rfl, rfl⟩
  rw [HS1.out]
  have hXs : ((W.alloc (.cells #[sv, .int .i64 key] 28)).alloc (.cells #[.slice A zl.length c, .int .i64 0] 79)).heap.size ≤ W.heap.size + 1 + 1 := by simp
  generalize ((W.alloc (.cells #[sv, .int .i64 key] 28)).alloc (.cells #[.slice A zl.length c, .int .i64 0] 79)) = X at *
  have HNx := Lib.hid (snx_any X X _ (W.heap.size + 1) (.slice A zl.length c) zl ((N : Int) + 1) hS0 rfl (by omega) (by omega))
  go_wp2_with fail
  (with_reducible refine HNx.out.mono ?_)
  rintro e w2 ⟨r, rfl, hrN, hS2⟩
  have HVX := Lib.hid hVX; have HBX := Lib.hid hBX
  have hx1 := hS0.lt0
  clear hVX hBX hS0 HNx
  go_wp2_with fail
  go_loopw [8, 9] (fun ov kv wr => ∃ (k : Nat) (ps : List Rs) (ls : List Rc), kv = .int .i64 k ∧ ls.length + k ≤ N ∧ OwnK recL 41 wr (W.heap.size + 1 + 1) ov ps ∧ Hid (DeepO 32 wr (W.heap.size + 1 + 1) ps ls) ∧ Hid (∀ r ∈ ls, okRec cs r = true) ∧ Go.KV.Src X wr (W.heap.size + 1) (W.heap.size + 1) (.slice A zl.length c) zl) (fun _ kv _ => (intOf kv).toNat)
  case atStart => exact ⟨r, [], [], rfl, by simp; omega, OwnK.nil _ _ _ _, Lib.hid (DeepO.nil _ _ _), Lib.hid (fun _ h => by simp at h), hS2⟩
  case round =>
    clear hS2 hrN
    obtain ⟨k, ps, ls, rfl, hlk, hown, HD, HC, hS⟩ := hrel
    have hbx := hS.below
    have hbW : Below W.heap.size W wr := HBX.out.trans (hbx.mono (Nat.le_succ _))
    by_cases hk : 0 < k
    case neg =>
      have hd0 : decide ((0 : Int) < (k : Int)) = false := decide_eq_false (by omega)
      have HD2 := Lib.hid (HD.out.lower (show W.heap.size ≤ W.heap.size + 1 + 1 by omega))
      go_wp2
      go_ret
      exact LooseP.mk rfl ⟨ps, OwnK.lower hown (by omega), HD2.out⟩ (by omega) HC.out hbW
    have hd0 : decide ((0 : Int) < (k : Int)) = true := decide_eq_true (by omega)
    have hd0' : decide (0 < k) = true := decide_eq_true hk
    have hX2 : W.heap.size + 1 + 1 ≤ wr.heap.size := by have := hS.lt; omega
    obtain ⟨Am, nm, cm, rfl⟩ := ownK_sl hown
    have HVW := fun w (h : Below (W.heap.size + 1) X w) => Lib.hid (HVX.out.below h (Nat.lt_succ_self _))
    have HROW := fun w (h : Go.KV.Src X w (W.heap.size + 1) (W.heap.size + 1) (.slice A zl.length c) zl) => Lib.hid (krow_any cs sv key w (W.heap.size + 1) _ zl h.again ((HSC.out.below (HBX.out.trans (h.below.mono (Nat.le_succ _)))).more (Nat.le_succ _)) h12 HTY.out)
    have HNX := fun w (h : Go.KV.Src X w (W.heap.size + 1) (W.heap.size + 1) (.slice A zl.length c) zl) => Lib.hid (snx_any X w _ (W.heap.size + 1) (.slice A zl.length c) zl 6 h rfl (by omega) (by omega))
    have HS := Lib.hid hS.drew; have HOW := Lib.hid (OwnK.drew hown)
    have hpl : ps.length ≤ 100 := by have := HD.out.1; omega
    have HPL1 := fun x : Rs => Lib.hid (show ps.length + [x].length ≤ maxLen by unfold maxLen; simp only [List.length_cons, List.length_nil]; omega)
    have HPL2 := fun x : Rs => Lib.hid (show (ps.length + [x].length) * 32 ≤ 140737488355328 by simp only [List.length_cons, List.length_nil]; omega)
    obtain ⟨v0, v1, -, -⟩ := (HVW _ HS.out.below).out
    have HDD := Lib.hid (show DeepO 32 wr.drew (W.heap.size + 1 + 1) ps ls from HD.out)
    have hszd : wr.drew.heap.size = wr.heap.size := rfl
    clear hown hS hbx hpl HD hbW
    go_wp2_with fail
    go_region_law (first
      | (go_simp; go_at_call 39; (with_reducible refine (HNX _ HS.out).out.mono ?_); rintro e w4 ⟨q, rfl, hq6, hS4⟩; have HS4 := Lib.hid (src_join HS.out hS4); have HO4 := Lib.hid (show OwnK recL 41 w4 (W.heap.size + 1 + 1) (.slice Am nm cm) ps from own_srcG hS4 HOW.out (Nat.lt_succ_self _)); have HD4 := Lib.hid (DeepO.src hS4 HDD.out (Nat.lt_succ_self _)); have hz4 := hS4.gb.size; obtain ⟨v0, v1, -, -⟩ := (HVW _ HS4.out.below).out; clear hS4)
      | (go_simp; go_at_call 40; (with_reducible refine (HROW _ HS4.out).out.mono ?_); rintro e w5 ⟨u, l, rfl, ho, hck, hS5⟩; obtain ⟨sA, sn, sc, rfl⟩ := ownL_sl ho; have HS5 := Lib.hid (src_join HS4.out hS5); have HO5 := Lib.hid (show OwnK recL 41 w5 (W.heap.size + 1 + 1) (.slice Am nm cm) ps from own_srcG hS5 HO4.out (Nat.lt_succ_self _)); have HD5 := Lib.hid ((DeepO.src hS5 HD4.out (Nat.lt_succ_self _)).snoc (p := ⟨(q : Int), ⟨sA, sn, sc⟩⟩) (r := ⟨(q : Int), l⟩) rfl (ho.lower (by omega))); have hz5 := hS5.gb.size; have HCK := Lib.hid hck; clear hS5 ho hck)
      | (show (if Region.wanted ⟨some 28, _, _, _, _, _⟩ _ = true then _ else _); refine step_appK (L := recL) rfl (.tmp 20) (.tmp 27) 24 rfl (W.heap.size + 1 + 1) 41 32 Try.underlying24 Try.infRec (.slice Am nm cm) ps rfl (OwnK.alloc HO5.out _) (w5.heap.size + 1) (.slice (some ⟨w5.heap.size, 0, none⟩) 1 1) [⟨(q : Int), ⟨sA, sn, sc⟩⟩] rfl (RdK.lit (L := recL) _ [⟨(q : Int), ⟨sA, sn, sc⟩⟩] 1 _ (Nat.le_refl 1) (by decide)) (HPL1 _).out (HPL2 _).out (by simp; omega) ?_; intro v' w' hown' hb' hg')
      | fail)
    all_goals
      have HSN := Lib.hid ((HS5.out.alloc (by omega) _).of hb' (Nat.lt_succ_self _) (by omega))
      have HDN := Lib.hid ((HD5.out.below ((Below.refl _ _).alloc (Nat.le_refl _) _)).keep (OwnK.alloc HO5.out _) (by decide) hg')
      have HCN := Lib.hid (all_snocG (p := fun r => okRec cs r = true) HC.out (okRec_ok (r := ⟨(q : Int), l⟩) (show ¬ (q : Int) < 0 by omega) (show ¬ 1099511627776 < (q : Int) by omega) HCK.out))
      clear hb' hg' HS5 HD5 HO5 HS4 HO4 HD4
      go_wp2_with fail
      go_roundw
      all_goals first
        | exact ⟨k - 1, _, _, by go_num, by rw [List.length_append]; simp; omega, hown', HDN, HCN, HSN.out⟩
        | (simp [intOf]; omega)
set_option maxRecDepth 100000 in
set_option maxHeartbeats 1000000 in
theorem krecs_any (W : World) (cs : List Col) (sv : Value) (key : Int) (v : Value) (zl : List Int) (N : Nat) (hN : N ≤ 100) (hS : RdC W W.heap.size sv cs) (h12 : cs.length ≤ 12) (hty : ∀ i, i < cs.length → Go.VL.okT (cs.getD i col0).ty = true)
    (hr : RdI .i64 W W.heap.size v zl) (hw : ∀ z ∈ zl, (Lit.int .i64 z).wf = true) :
    Calls Try.prog 31 #[.agg #[sv, .int .i64 key], v, .int .i64 (N : Int)] W (RecsP cs key N W) := by
  obtain ⟨A, c, rfl, hc, hm, hrr⟩ := hr
  have hr : RdI .i64 W W.heap.size (.slice A zl.length c) zl := ⟨A, c, rfl, hc, hm, hrr⟩
  have HB1 := Lib.hid ((Below.refl W.heap.size W).alloc (Nat.le_refl _) (.cells #[sv, .int .i64 key] 28))
  have HS1 := Lib.hid (show (W.alloc (.cells #[sv, .int .i64 key] 28)).heap.size = W.heap.size + 1 from by simp)
  have HV := Lib.hid (Var2.new W sv (.int .i64 key) 28)
  have HF := fun w => Lib.hid (sfrom_any A zl.length c w)
  have HR1 := Lib.hid (hr.step HB1.out)
  have hS0 := Go.KV.Src.made HR1.out hw 79
  rw [HS1.out] at hS0
  have hVX := HV.out.step ((Below.refl _ _).alloc (Nat.le_refl _) (.cells #[.slice A zl.length c, .int .i64 0] 79))
  have hBX := HB1.out.alloc (by rw [HS1.out]; omega) (.cells #[.slice A zl.length c, .int .i64 0] 79)
  have HSC := Lib.hid hS; have HTY := Lib.hid hty
  clear hr hrr hc hm hw hS hty
  go_enter Try.func31, Try.ntmps31
  go_wp2_with fail
  (with_reducible refine (HF _).out.mono ?_); rintro e w1 ⟨rfl, rfl⟩
  rw [HS1.out]
  have hXs : ((W.alloc (.cells #[sv, .int .i64 key] 28)).alloc (.cells #[.slice A zl.length c, .int .i64 0] 79)).heap.size ≤ W.heap.size + 1 + 1 := by simp
  generalize ((W.alloc (.cells #[sv, .int .i64 key] 28)).alloc (.cells #[.slice A zl.length c, .int .i64 0] 79)) = X at *
  have HNx := Lib.hid (snx_any X X _ (W.heap.size + 1) (.slice A zl.length c) zl 5 hS0 rfl (by omega) (by omega))
  go_wp2_with fail
  (with_reducible refine HNx.out.mono ?_)
  rintro e w2 ⟨q0, rfl, hq0, hS1⟩
  have HNy := Lib.hid (snx_any X w2 _ (W.heap.size + 1) (.slice A zl.length c) zl ((N : Int) + 1) hS1 rfl (by omega) (by omega))
  go_wp2_with fail
  (with_reducible refine HNy.out.mono ?_)
  rintro e w3 ⟨r, rfl, hrN, hS3⟩
  have hS2 := src_join hS1 hS3
  have HVX := Lib.hid hVX; have HBX := Lib.hid hBX
  have hx1 := hS0.lt0
  clear hVX hBX hS0 HNx HNy hS1 hS3
  go_wp2_with fail
  go_loopw [8, 9, 10] (fun ov qv kv wr => ∃ (k q : Nat) (ps : List Rs) (ls : List Rc), kv = .int .i64 k ∧ qv = .int .i64 q ∧ ls.length + k ≤ N ∧ q ≤ 4 + 3 * ls.length ∧ OwnK recL 41 wr (W.heap.size + 1 + 1) ov ps ∧ Hid (DeepO 32 wr (W.heap.size + 1 + 1) ps ls) ∧ Hid (∀ r ∈ ls, okRec cs r = true ∧ r.seq < q) ∧ Hid (ls.Pairwise fun a b => a.seq < b.seq) ∧ Go.KV.Src X wr (W.heap.size + 1) (W.heap.size + 1) (.slice A zl.length c) zl) (fun _ _ kv _ => (intOf kv).toNat)
  case atStart => exact ⟨r, q0, [], [], rfl, rfl, by simp; omega, by simp; omega, OwnK.nil _ _ _ _, Lib.hid (DeepO.nil _ _ _), Lib.hid (fun _ h => by simp at h), Lib.hid List.Pairwise.nil, hS2⟩
  case round =>
    clear hS2 hrN hq0
    obtain ⟨k, q, ps, ls, rfl, rfl, hlk, hql, hown, HD, HC, HP, hS⟩ := hrel
    have hbx := hS.below
    have hbW : Below W.heap.size W wr := HBX.out.trans (hbx.mono (Nat.le_succ _))
    obtain ⟨v0, v1, -, -⟩ := HVX.out.below hbx (Nat.lt_succ_self _)
    by_cases hk : 0 < k
    case neg =>
      have hd0 : decide ((0 : Int) < (k : Int)) = false := decide_eq_false (by omega)
      have HSO := Lib.hid (rsort_any cs sv key _ ls wr (HSC.out.step hbW) ⟨ps, OwnK.read hown, HD.out.read⟩ (by omega))
      clear hown HD
      go_wp2_with fail
      (with_reducible refine HSO.out.mono ?_); rintro e w5 ⟨u, qs, rfl, ho, hd, hb5⟩
      go_wp2_with fail
      go_ret
      exact ⟨_, ls, rfl, Go.RS.OwnK.rdR ho hd, by omega, fun r hr => (HC.out r hr).1, HP.out, bel_trans hbW hb5⟩
    have hd0 : decide ((0 : Int) < (k : Int)) = true := decide_eq_true (by omega)
    have hd0' : decide (0 < k) = true := decide_eq_true hk
    have hX2 : W.heap.size + 1 + 1 ≤ wr.heap.size := by have := hS.lt; omega
    obtain ⟨Am, nm, cm, rfl⟩ := ownK_sl hown
    have HROW := Lib.hid (krow_any cs sv key wr (W.heap.size + 1) _ zl hS.again ((HSC.out.below hbW).more (Nat.le_succ _)) h12 HTY.out)
    have HS := Lib.hid hS; have HOW := Lib.hid hown
    have hsz := hS.gb.size
    clear hown hS hbx hbW
    go_wp2_with fail
    (with_reducible refine HROW.out.mono ?_); rintro e w5 ⟨u, l, rfl, ho, hck, hS5⟩
    obtain ⟨sA, sn, sc, rfl⟩ := ownL_sl ho
    have hs5 := hS5.gb.size
    have hbl := (Below.refl w5.heap.size w5).alloc (Nat.le_refl _) (.cells #[.int .i64 (q : Int), .slice sA sn sc] 41)
    have HO1 := Lib.hid (OwnK.alloc (show OwnK recL 41 w5 (W.heap.size + 1 + 1) _ ps from own_srcG hS5 HOW.out (Nat.lt_succ_self _)) (.cells #[.int .i64 (q : Int), .slice sA sn sc] 41))
    have HD1 := Lib.hid (((DeepO.src hS5 HD.out (Nat.lt_succ_self _)).snoc (p := ⟨(q : Int), ⟨sA, sn, sc⟩⟩) (r := ⟨(q : Int), l⟩) rfl (ho.lower hX2)).below hbl)
    have HRD := Lib.hid (RdK.lit (L := recL) w5 [(⟨(q : Int), ⟨sA, sn, sc⟩⟩ : Rs)] 1 41 (Nat.le_refl 1) (by decide))
    have HLE := Lib.hid (show W.heap.size + 1 + 1 ≤ (w5.alloc (.cells #[.int .i64 (q : Int), .slice sA sn sc] 41)).heap.size by have := hbl.size; omega)
    have HSA := Lib.hid ((src_join HS.out hS5).alloc (by omega) (.cells #[.int .i64 (q : Int), .slice sA sn sc] 41))
    have hq40 : ¬ 1099511627776 < (q : Int) := by omega
    have HCN := Lib.hid (all_snocG (p := fun r => okRec cs r = true ∧ r.seq < ((q + 1 : Nat) : Int)) (fun y hy => ⟨(HC.out y hy).1, by have := (HC.out y hy).2; omega⟩) (x := ⟨(q : Int), l⟩) ⟨okRec_ok (r := ⟨(q : Int), l⟩) (show ¬ (q : Int) < 0 by omega) hq40 hck, show (q : Int) < ((q + 1 : Nat) : Int) by omega⟩)
    have HPN := Lib.hid (show (ls ++ [(⟨(q : Int), l⟩ : Rc)]).Pairwise (fun a b => a.seq < b.seq) from List.pairwise_append.2 ⟨HP.out, List.pairwise_singleton _ _, fun a ha b hb => by rw [List.mem_singleton.1 hb]; exact (HC.out a ha).2⟩)
    have hpl : ps.length ≤ 100 := by have := HD.out.1; omega
    have HPL1 := Lib.hid (show ps.length + [(⟨(q : Int), ⟨sA, sn, sc⟩⟩ : Rs)].length ≤ maxLen by unfold maxLen; simp only [List.length_cons, List.length_nil]; omega)
    have HPL2 := Lib.hid (show (ps.length + [(⟨(q : Int), ⟨sA, sn, sc⟩⟩ : Rs)].length) * 32 ≤ 140737488355328 by simp only [List.length_cons, List.length_nil]; omega)
    clear hS5 hbl ho hck hpl HROW HOW HS HD HC HP v0 v1 hq40
    go_wp2_with (at_builtin; refine wpl_appK (L := recL) rfl _ _ 24 rfl (W.heap.size + 1 + 1) 41 32 Try.underlying24 Try.infRec _ ps rfl HO1.out _ _ [(⟨(q : Int), ⟨sA, sn, sc⟩⟩ : Rs)] rfl HRD.out HPL1.out HPL2.out HLE.out ?_)
    intro v' w' hown' hb' hg'
    have HDN := Lib.hid (HD1.out.keep HO1.out (by decide) hg')
    have hSN := HSA.out.of hb' (Nat.lt_succ_self _) (by omega)
    have HSN := Lib.hid hSN
    have HN3 := Lib.hid (snx_any X w' _ (W.heap.size + 1) (.slice A zl.length c) zl 3 hSN rfl (by omega) (by omega))
    clear hb' hg' HD1 HO1 HSA hSN
    obtain ⟨Av, nv, cv, rfl⟩ := ownK_sl hown'
    have HOV := Lib.hid hown'
    clear hown'
    go_wp2_with fail
    (with_reducible refine HN3.out.mono ?_); rintro e w7 ⟨d, rfl, hd3, hS7⟩
    have HO7 := Lib.hid (show OwnK recL 41 w7 (W.heap.size + 1 + 1) _ (ps ++ [(⟨(q : Int), ⟨sA, sn, sc⟩⟩ : Rs)]) from own_srcG hS7 HOV.out (Nat.lt_succ_self _))
    have HD7 := Lib.hid (DeepO.src hS7 HDN.out (Nat.lt_succ_self _))
    have HS7 := Lib.hid (src_join HSN.out hS7)
    have HC7 := Lib.hid (show ∀ r ∈ ls ++ [(⟨(q : Int), l⟩ : Rc)], okRec cs r = true ∧ r.seq < ((q + 1 + d : Nat) : Int) from fun r hr => ⟨(HCN.out r hr).1, by have := (HCN.out r hr).2; omega⟩)
    have hd4 : d ≤ 2 := by omega
    clear hS7 HOV HDN HSN HCN HN3 hd3
    go_wp2_with fail
    go_roundw
    all_goals first
      | exact ⟨k - 1, q + 1 + d, _, _, by go_num, by go_num, by rw [List.length_append]; simp; omega, by rw [List.length_append]; simp; omega, HO7.out, HD7, HC7, HPN, HS7.out⟩
      | (simp [intOf]; omega)
end Go.Proofs.Ytjbkeipagdmlpaa
