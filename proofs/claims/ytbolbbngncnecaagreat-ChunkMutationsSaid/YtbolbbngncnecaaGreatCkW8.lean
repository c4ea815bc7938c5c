/- The walks over package chunk: getPlainValue, getPlain, getPayload. -/
import Derived.Test.YtbolbbngncnecaaGreatCkW7
import Derived.Test.YtbolbbngncnecaaGreatChk9
namespace Go.CK
open Go.RowKit Go.VB Go.VS
/-- It returns values and whether they are what D finds. -/
def PlP (D : Option (List Vl)) (w : World) : Ending → World → Prop := fun en w' =>
  ∃ v l b, en = .returned (.tuple #[v, .bool b]) ∧ RdL w' w'.heap.size v l ∧ ((b = true ∧ D = some l) ∨ (b = false ∧ D = none)) ∧ Below w.heap.size w w'
theorem PlP.mk {D : Option (List Vl)} {w w' : World} {x v : Value} {l : List Vl} {b : Bool} (hx : x = .tuple #[v, .bool b]) (hr : RdL w' w'.heap.size v l) (hd : (b = true ∧ D = some l) ∨ (b = false ∧ D = none)) (hb : Below w.heap.size w w') : PlP D w (.returned x) w' := ⟨v, l, b, by rw [hx], hr, hd, hb⟩
end Go.CK
namespace Go.Proofs.YtbolbbngncnecaaGreat
open Go.RowKit Go.VB Go.VarM Go.BP Go.RL Go.VS Go.VL Go.DI Go.CK Go.NU
section
variable (typ : Int) (s : ByteArray) (p : Int) (W : World) (zs : s.size ≤ 140737488351232)
include zs
set_option maxRecDepth 100000 in
set_option maxHeartbeats 1000000 in
theorem getPV_e {a e : Nat} {b : Int} (hg : getR s p = (a, b, e)) (he : e ≠ 0) : Calls Tryz.prog 116 #[.int .i64 typ, .string s, .int .i64 p] W (RetB (.tuple #[vl0.val, .int .i64 0, .bool false]) W) := by
  have HG := fun w => Lib.hid (vget_is s p w (by unfold maxLen; omega) hg)
  have hd : ((e : Int) != 0) = true := ine_t (by omega)
  have hb : Below W.heap.size W (W.alloc (.cells #[.bool false, .int .i64 0, .string ⟨#[]⟩] 42)) := (Below.refl _ _).alloc (Nat.le_refl _) _
  clear hg he
  go_enter Tryz.func116, Tryz.ntmps116
  go_wp2_with fail
  (with_reducible refine (HG _).out.mono ?_); rintro e w1 ⟨rfl, rfl⟩
  go_wp2
  refine bodyPost_ret (v := .tuple #[vl0.val, .int .i64 0, .bool false]) (by simp [results, Tryz.results116, go_sem, vl0, Vl.val]) rfl ?_
  exact RetB.mk rfl hb
set_option maxRecDepth 100000 in
set_option maxHeartbeats 1000000 in
theorem getPV_num {a : Nat} {b : Int} (hg : getR s p = (a, b, 0)) (ht : typ ≠ 3) : Calls Tryz.prog 116 #[.int .i64 typ, .string s, .int .i64 p] W (RetB (.tuple #[(⟨false, zagN a, ⟨#[]⟩⟩ : Vl).val, .int .i64 b, .bool true]) W) := by
  obtain ⟨k, m, -, -, -, -, -, ha⟩ := getR_zero hg
  have HG := fun w => Lib.hid (vget_ok s p w (by unfold maxLen; omega) hg)
  have HZ := fun w => Lib.hid (vzag_any (a : Int) w (by omega) (by omega))
  have hd : (typ != 3) = true := ine_t ht
  have hb : Below W.heap.size W (W.alloc (.cells #[.bool false, .int .i64 (zagN a), .string ⟨#[]⟩] 42)) := (Below.refl _ _).alloc (Nat.le_refl _) _
  generalize zagN a = z at *
  clear hg ht
  go_enter Tryz.func116, Tryz.ntmps116
  go_wp2_with fail
  (with_reducible refine (HG _).out.mono ?_); rintro e w1 ⟨rfl, rfl⟩
  go_wp2_with fail
  (with_reducible refine (HZ _).out.mono ?_); rintro e w1 ⟨rfl, rfl⟩
  go_wp2
  refine bodyPost_ret (v := .tuple #[(⟨false, z, ⟨#[]⟩⟩ : Vl).val, .int .i64 b, .bool true]) (by simp [results, Tryz.results116, go_sem, Vl.val]) rfl ?_
  exact RetB.mk rfl hb
set_option maxRecDepth 100000 in
set_option maxHeartbeats 1000000 in
theorem getPV_long {a b : Nat} (hg : getR s p = (a, (b : Int), 0)) (hbs : b ≤ s.size) (h : s.size < b + a) : Calls Tryz.prog 116 #[.int .i64 3, .string s, .int .i64 p] W (RetB (.tuple #[vl0.val, .int .i64 0, .bool false]) W) := by
  have HG := fun w => Lib.hid (vget_ok s p w (by unfold maxLen; omega) hg)
  have hw1 : wrap64 ((s.size : Int) - (b : Int)) = (s.size : Int) - (b : Int) := by unfold wrap64; omega
  have hw2 : IntKind.u64.wrap ((s.size : Int) - (b : Int)) = (s.size : Int) - (b : Int) := by rw [IntKind.wrap_u64]; omega
  have hd : decide ((s.size : Int) - (b : Int) < (a : Int)) = true := decide_eq_true (by omega)
  have hb : Below W.heap.size W (W.alloc (.cells #[.bool false, .int .i64 0, .string ⟨#[]⟩] 42)) := (Below.refl _ _).alloc (Nat.le_refl _) _
  clear hg
  go_enter Tryz.func116, Tryz.ntmps116
  go_wp2_with fail
  (with_reducible refine (HG _).out.mono ?_); rintro e w1 ⟨rfl, rfl⟩
  go_wp2
  refine bodyPost_ret (v := .tuple #[vl0.val, .int .i64 0, .bool false]) (by simp [results, Tryz.results116, go_sem, vl0, Vl.val]) rfl ?_
  exact RetB.mk rfl hb
set_option maxRecDepth 100000 in
set_option maxHeartbeats 1000000 in
theorem getPV_text {a b : Nat} (hg : getR s p = (a, (b : Int), 0)) (h : b + a ≤ s.size) : Calls Tryz.prog 116 #[.int .i64 3, .string s, .int .i64 p] W (RetB (.tuple #[(⟨false, 0, s.extract b (b + a)⟩ : Vl).val, .int .i64 ((b : Int) + a), .bool true]) W) := by
  have HG := fun w => Lib.hid (vget_ok s p w (by unfold maxLen; omega) hg)
  have hw1 : wrap64 ((s.size : Int) - (b : Int)) = (s.size : Int) - (b : Int) := by unfold wrap64; omega
  have hw2 : IntKind.u64.wrap ((s.size : Int) - (b : Int)) = (s.size : Int) - (b : Int) := by rw [IntKind.wrap_u64]; omega
  have hd : decide ((s.size : Int) - (b : Int) < (a : Int)) = false := decide_eq_false (by omega)
  have hw3 : wrap64 (a : Int) = (a : Int) := by unfold wrap64; omega
  have hw4 : wrap64 ((b : Int) + (a : Int)) = ((b + a : Nat) : Int) := by unfold wrap64; omega
  have hq1 : (b : Int) ≤ ((b + a : Nat) : Int) := by omega
  have hq2 : ((b + a : Nat) : Int) ≤ (s.size : Int) := by omega
  have hb : Below W.heap.size W (W.alloc (.cells #[.bool false, .int .i64 0, .string (s.extract b (b + a))] 42)) := (Below.refl _ _).alloc (Nat.le_refl _) _
  clear hg
  go_enter Tryz.func116, Tryz.ntmps116
  go_wp2_with fail
  (with_reducible refine (HG _).out.mono ?_); rintro e w1 ⟨rfl, rfl⟩
  go_wp2
  refine bodyPost_ret (v := .tuple #[(⟨false, 0, s.extract b (b + a)⟩ : Vl).val, .int .i64 ((b : Int) + a), .bool true]) (by simp [results, Tryz.results116, go_sem, Vl.val]) rfl ?_
  exact RetB.mk rfl hb
theorem getPV_any : Calls Tryz.prog 116 #[.int .i64 typ, .string s, .int .i64 p] W (RetB (.tuple #[(pv1 typ s p).1.val, .int .i64 (pv1 typ s p).2.1, .bool (pv1 typ s p).2.2]) W) := by
  obtain ⟨a, b, e, hg⟩ : ∃ a b e, getR s p = (a, b, e) := ⟨_, _, _, rfl⟩
  by_cases he : e = 0
  · subst he
    obtain ⟨k, m, -, rfl, -, hkm, -, -⟩ := getR_zero hg
    by_cases ht : typ = 3
    · subst ht
      have hg' : getR s p = (a, ((k + m : Nat) : Int), 0) := by rw [hg]; push_cast; rfl
      by_cases h : s.size < k + m + a
      · rw [pv1_long hg (by omega)]
        exact getPV_long s p W zs hg' hkm h
      · rw [pv1_text hg' (by omega)]
        exact getPV_text s p W zs hg' (by omega)
    · rw [pv1_num hg ht]
      exact getPV_num typ s p W zs hg ht
  · rw [pv1_e hg he]
    exact getPV_e typ s p W zs hg he
end
set_option maxRecDepth 100000 in
set_option maxHeartbeats 1000000 in
theorem getPlain_any (typ : Int) (s : ByteArray) (n : Nat) (W : World) (zs : s.size ≤ 140737488351232) (hn : n ≤ 4096) : Calls Tryz.prog 89 #[.int .i64 typ, .string s, .int .i64 (n : Int)] W (PlP (plainD typ s n 0 []) W) := by
  have HPV := fun p w => Lib.hid (getPV_any typ s p w zs)
  have HST := Lib.hid (plain_step typ s)
  have hmk1 := run_make30 (P := Tryz.prog) Tryz.underlying28 Tryz.infVal n (by omega) (by unfold maxLen; omega) W
  have hown := OwnL.made0 42 W W.heap.size n (Nat.le_refl _) (by unfold maxLen; omega)
  have hb0 : Below W.heap.size W (W.alloc (.cells (madeCells #[.bool false, .int .i64 0, .string ⟨#[]⟩] (n * 3)) 42)) := (Below.refl _ _).alloc (Nat.le_refl _) _
  generalize (W.alloc (.cells (madeCells #[.bool false, .int .i64 0, .string ⟨#[]⟩] (n * 3)) 42)) = W1 at hmk1 hown hb0
  have HDE := Lib.hid (fun (p : Int) (acc : List Vl) (h : p = s.size) => plainD_end (typ := typ) (s := s) (p := p) (acc := acc) h)
  have HDL := Lib.hid (fun (p : Int) (acc : List Vl) (h : ¬ p = s.size) => plainD_left (typ := typ) (s := s) (p := p) (acc := acc) h)
  generalize hD : plainD typ s n 0 [] = D
  have HD := Lib.hid hD; clear hD
  generalize pv1 typ s = PV at *
  go_enter Tryz.func89, Tryz.ntmps89
  go_wp2
  clear hmk1
  go_loopw [6, 7, 8, 9, 16] (fun r1 r2 pv q i wr => ∃ (j : Nat) (p : Int) (acc : List Vl), r1 = .slice none 0 0 ∧ r2 = .bool false ∧ i = .int .i64 j ∧ q = .int .i64 p ∧ j ≤ n ∧ acc.length = j ∧ OwnL 42 wr W.heap.size pv acc ∧ plainD typ s (n - j) p acc = D ∧ Below W.heap.size W wr) (fun _ _ _ _ i _ => n - (intOf i).toNat)
  case atStart => exact ⟨0, 0, [], rfl, rfl, rfl, rfl, Nat.zero_le _, rfl, hown, HD.out, hb0⟩
  case round =>
    clear hown hb0
    obtain ⟨j, p, acc, rfl, rfl, rfl, rfl, hj, hlen, hown, hpd, hbel⟩ := hrel
    have HPD := Lib.hid hpd; clear hpd
    by_cases hlt : j < n
    · have HS := Lib.hid (HST.out (n - (j + 1)) p acc)
      rw [show n - (j + 1) + 1 = n - j from by omega, HPD.out] at HS
      obtain ⟨x, q, ok, hpv⟩ : ∃ x q ok, PV p = (x, q, ok) := ⟨_, _, _, rfl⟩
      have HG := fun w => Lib.hid (HPV p w).out
      rw [hpv] at HG HS
      obtain ⟨xb, xn, xs⟩ := x
      simp only [Vl.val] at HG
      have HPV2 := Lib.hid hpv; clear hpv
      have hszb := hbel.size
      cases ok
      · have HN := Lib.hid (show D = none from HS.out)
        go_wp2_with fail
        (with_reducible refine (HG _).out.mono ?_); rintro e w2 ⟨rfl, hb2⟩
        have hbel2 := bel_trans hbel hb2
        go_wp2
        go_ret2
        exact PlP.mk rfl (RdL.nil _ _) (.inr ⟨rfl, HN.out⟩) (hbel2.alloc hbel2.size _)
      · have HN := Lib.hid (show D = plainD typ s (n - (j + 1)) q (acc ++ [⟨xb, xn, xs⟩]) from HS.out)
        go_wp2_with fail
        (with_reducible refine (HG _).out.mono ?_); rintro e w2 ⟨rfl, hb2⟩
        have hbel2 := bel_trans hbel hb2
        have hsz2 := hbel2.size
        have hown2 := hown.below hb2
        clear hown hbel hb2 HG HS
        have HX2 : Hid (RdL ((w2.alloc (.cells #[.bool xb, .int .i64 xn, .string xs] 42)).alloc (.cells #[.bool xb, .int .i64 xn, .string xs] 42)) (w2.heap.size + 1 + 1) (.slice (some ⟨w2.heap.size + 1, 0, none⟩) 1 1) [⟨xb, xn, xs⟩]) := by
          have h := RdL.lit (w2.alloc (.cells #[.bool xb, .int .i64 xn, .string xs] 42)) [⟨xb, xn, xs⟩] 1 42 (Nat.le_refl 1) (by decide)
          rw [show (w2.alloc (.cells #[.bool xb, .int .i64 xn, .string xs] 42)).heap.size = w2.heap.size + 1 from by simp] at h
          exact Lib.hid h
        have HO := Lib.hid ((hown2.alloc (.cells #[.bool xb, .int .i64 xn, .string xs] 42)).alloc (.cells #[.bool xb, .int .i64 xn, .string xs] 42))
        have HBA := Lib.hid ((hbel2.alloc hsz2 (.cells #[.bool xb, .int .i64 xn, .string xs] 42)).alloc (by simp; omega) (.cells #[.bool xb, .int .i64 xn, .string xs] 42))
        have HL1 := Lib.hid (show acc.length + [(⟨xb, xn, xs⟩ : Vl)].length ≤ 1000000 by simp only [List.length_cons, List.length_nil]; omega)
        have HL3 := Lib.hid HBA.out.size
        clear hown2 hbel2
        go_wp2_with (at_builtin; refine wpl_appL rfl _ _ 28 rfl W.heap.size 42 Tryz.underlying28 Tryz.infVal _ acc rfl HO.out _ _ [⟨xb, xn, xs⟩] rfl HX2.out HL1.out HL3.out ?_)
        intro v' w' hown' hb' _
        go_wp2_with fail
        go_roundw
        case rel => exact ⟨j + 1, q, acc ++ [⟨xb, xn, xs⟩], rfl, rfl, by go_num, rfl, hlt, by rw [List.length_append]; simp [hlen], hown', HN.out.symm, HBA.out.trans hb'⟩
        case measure => simp [intOf] <;> omega
    · have hz : n - j = 0 := by omega
      have HZ := HPD.out
      rw [hz] at HZ
      have HZ := Lib.hid HZ
      have hr := hown.read
      by_cases hp : p = s.size
      · have HE := Lib.hid (HZ.out.symm.trans (HDE.out p acc hp))
        have hd : (p == (s.size : Int)) = true := ieq_t hp
        clear hown hp
        go_wp2
        go_ret2
        exact PlP.mk rfl hr (.inl ⟨rfl, HE.out⟩) hbel
      · have HE := Lib.hid (HZ.out.symm.trans (HDL.out p acc hp))
        have hd : (p == (s.size : Int)) = false := ieq_f hp
        clear hown hp
        go_wp2
        go_ret2
        exact PlP.mk rfl hr (.inr ⟨rfl, HE.out⟩) hbel
end Go.Proofs.YtbolbbngncnecaaGreat
