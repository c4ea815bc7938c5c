/- The walk over the reference's ReadColumn. -/
import Derived.Test.YtfkdenlpailmeaaSchR2
namespace Go.SC
open Go.RowKit Go.VB Go.VL
/-- What ReadColumn leaves. -/
def PCW (ws : List (List UInt8)) (w : World) : Ending → World → Prop := fun e w' => Below w.heap.size w w' ∧ ∃ (c : Col) (b : Bool), e = .returned (.tuple #[c.val, .bool b]) ∧
  (b = true → okC c ∧ ws = colW c) ∧ (b = false → ¬ ∃ c, okC c ∧ ws = colW c) ∧ (c.nu = true → 2 < ws.length ∧ ws.getD (ws.length - 1) [] = nulW)
theorem PCW.mk' {ws : List (List UInt8)} {w w' : World} {x : Value} (nm : ByteArray) (ty sc : Int) (nu b : Bool) (hx : x = .tuple #[.agg #[.string nm, .int .i64 ty, .int .i64 sc, .bool nu], .bool b])
    (h1 : b = true → okC ⟨nm, ty, sc, nu⟩ ∧ ws = colW ⟨nm, ty, sc, nu⟩) (h2 : b = false → ¬ ∃ c, okC c ∧ ws = colW c) (h3 : nu = true → 2 < ws.length ∧ ws.getD (ws.length - 1) [] = nulW) (hb : Below w.heap.size w w') : PCW ws w (.returned x) w' :=
  ⟨hb, ⟨nm, ty, sc, nu⟩, b, by rw [hx]; rfl, h1, h2, h3⟩
/-- The cells of a list of texts, told at every later world. -/
theorem RdS.cells {w : World} {B : Nat} {ws : List (List UInt8)} {A : Option Addr} {n c : Nat} (h : RdS w B (.slice A n c) ws) (h1 : 1 ≤ ws.length) : ∃ ad, A = some ad ∧ n = ws.length ∧ ws.length ≤ c ∧ c ≤ maxLen ∧ ad.block < B ∧ ∀ i, i < ws.length → w.cell? (ad.add i) = some (.string (str (ws.getD i []))) := by
  obtain ⟨A', c', hv, hc, hm, hr⟩ := h
  obtain ⟨rfl, rfl, rfl⟩ : A = A' ∧ n = ws.length ∧ c = c' := by injection hv with a b c; exact ⟨a, b, c⟩
  obtain ⟨ad, h2, h3, h4⟩ := hr 0 (by omega)
  refine ⟨ad, h2, rfl, hc, hm, h3, fun i hi => ?_⟩
  obtain ⟨ad', e2, _, e4⟩ := hr i hi
  rw [h2] at e2
  obtain rfl := Option.some.inj e2
  exact e4
theorem RdS.front {w : World} {B : Nat} {ws : List (List UInt8)} {ad : Addr} {m c : Nat} (hl : m + 1 = ws.length) (hc : ws.length ≤ c) (hm : c ≤ maxLen) (hB : ad.block < B) (h : ∀ i, i < ws.length → w.cell? (ad.add i) = some (.string (str (ws.getD i [])))) :
    RdS w B (.slice (some ad) m c) (ws.take m) := by
  have hlen : (ws.take m).length = m := by rw [List.length_take]; omega
  refine ⟨some ad, c, by rw [hlen], by omega, hm, fun i hi => ⟨ad, rfl, hB, ?_⟩⟩
  rw [hlen] at hi
  rw [h i (by omega), List.getD_eq_getElem?_getD, List.getD_eq_getElem?_getD, List.getElem?_take_of_lt hi]
theorem at_k (a : Addr) {k : Nat} (hk : k ≠ 0) : a.add k = ⟨a.block, a.off + k, none⟩ := by unfold Addr.add; rw [if_neg hk]
theorem at_0 (a : Addr) : a.add 0 = a := by unfold Addr.add; rw [if_pos rfl]
theorem plain_len {c : Col} {ws : List (List UInt8)} (he : ws = colB c) : ws.length = if c.ty = 5 then 3 else 2 := by rw [he]; exact colB_len c
end Go.SC
namespace Go.Proofs.Ytfkdenlpailmeaa
open Go.RowKit Go.VB Go.VL Go.SC
set_option linter.constructorNameAsVariable false
set_option maxRecDepth 100000 in
set_option maxHeartbeats 4000000 in
theorem rcol_null (ws : List (List UInt8)) (v : Value) (W : World) (hr : RdS W W.heap.size v ws) (h2 : 2 < ws.length) (hn : ws.getD (ws.length - 1) [] = nulW)
    (IH : ∀ v w, RdS w w.heap.size v (ws.take (ws.length - 1)) → Calls Try.prog 28 #[v] w (PCW (ws.take (ws.length - 1)) w)) :
    Calls Try.prog 28 #[v] W (PCW ws W) := by
  obtain ⟨A, cap, rfl, _⟩ := id hr
  obtain ⟨ad, rfl, _, hcap, hmx, hadB, hcell⟩ := hr.cells (by omega)
  obtain ⟨m, hm⟩ : ∃ m, ws.length = m + 1 := ⟨ws.length - 1, by omega⟩
  have hV := Var4F.new W (.string ⟨#[]⟩) (.int .i64 0) (.int .i64 0) (.bool false) 44
  have hB : Below W.heap.size W (W.alloc (.cells #[.string ⟨#[]⟩, .int .i64 0, .int .i64 0, .bool false] 44)) := (Below.refl _ _).alloc (Nat.le_refl _) _
  have hcell2 : ∀ w', Below W.heap.size W w' → ∀ i, i < ws.length → w'.cell? (ad.add i) = some (.string (str (ws.getD i []))) := fun w' hb i hi => (hb.cell (by rw [block_add]; exact hadB)).trans (hcell i hi)
  have hRdS : ∀ w', Below W.heap.size W w' → RdS w' w'.heap.size (.slice (some ad) m cap) (ws.take m) := fun w' hb => (RdS.front hm.symm hcap hmx hadB (hcell2 w' hb)).more hb.size
  have hlast := hcell2 _ hB m (by omega)
  rw [show ws.getD m [] = nulW from by rw [← hn, hm]; rfl, show str nulW = ⟨#[110, 117, 108, 108]⟩ from rfl] at hlast
  have HI := Lib.hid (IH _ _ (by rw [show ws.length - 1 = m from by omega]; exact hRdS _ hB))
  rw [show ws.length - 1 = m from by omega] at HI
  unfold maxLen at hmx
  have hm2 : 2 ≤ m := by omega
  have hcap2 : m + 1 ≤ cap := by omega
  have hP : Hid (∀ nm ty sc nu b x w', x = Value.tuple #[.agg #[.string nm, .int .i64 ty, .int .i64 sc, .bool nu], .bool b] → (b = true → okC ⟨nm, ty, sc, nu⟩ ∧ ws = colW ⟨nm, ty, sc, nu⟩) → (b = false → ¬ ∃ c, okC c ∧ ws = colW c) → Below W.heap.size W w' → PCW ws W (.returned x) w') :=
    Lib.hid fun nm ty sc nu b x w' hx a1 a2 hb => PCW.mk' nm ty sc nu b hx a1 a2 (fun _ => ⟨h2, hn⟩) hb
  rw [hm]
  clear hcell hcell2 IH hcap hRdS
  generalize PCW ws W = P at *
  go_enter Try.func28, Try.ntmps28
  go_wp2_with fail
  refine HI.out.mono ?_
  rintro e w1 ⟨hb, ⟨nm, ty, sc, nu⟩, b, rfl, a1, a2, a3⟩
  unfold Col.val
  simp only at a1 a2 a3 ⊢
  have hB1 := bel_trans hB hb
  have hV1 := hV.step hb
  clear HI hb hlast hB hV hr
  have hlt := hV1.lt
  cases nu with
  | true =>
    have hno : ¬ ∃ c, okC c ∧ ws = colW c := by
      rintro ⟨c, hc, he⟩
      obtain ⟨b1, b2⟩ := colW_nul hc he h2 hn
      rw [show ws.length - 1 = m from by omega] at b2
      obtain ⟨q1, q2⟩ := a3 rfl
      have hl := colB_len c
      rw [b2] at q1 q2
      by_cases h5 : c.ty = 5
      · rw [if_pos h5] at hl
        rw [hl] at q2
        unfold colB at q2
        rw [if_pos h5] at q2
        have q2' : scL c.sc.toNat = nulW := q2
        have hd := scL_dig (n := c.sc.toNat) (by have := hc.2.2.1 h5; omega) 110 (by rw [q2']; decide)
        exact absurd hd (by decide)
      · rw [if_neg h5] at hl; omega
    have hE := Lib.hid (fun x w' hx => hP.out ⟨#[]⟩ 0 0 false false x w' hx (fun h => by cases h) (fun _ => hno))
    clear hP a1 a2 a3 hno
    have hS := hV1.set (.string ⟨#[]⟩) (.int .i64 0) (.int .i64 0) (.bool false)
    have hBS := set4_below hB1 (Nat.le_refl _) (.string ⟨#[]⟩) (.int .i64 0) (.int .i64 0) (.bool false)
    obtain ⟨c0, c1, c2, c3, f0, f1, f2, f3⟩ := hV1
    go_wp2_with fail
    generalize (((w1.setCell ⟨W.heap.size, 0, none⟩ (.string ⟨#[]⟩)).setCell ⟨W.heap.size, 1, none⟩ (.int .i64 0)).setCell ⟨W.heap.size, 2, none⟩ (.int .i64 0)).setCell ⟨W.heap.size, 3, none⟩ (.bool false) = w9 at *
    have hS2 := hS.step ((Below.refl _ _).alloc (Nat.le_refl _) (.cells #[.string nm, .int .i64 ty, .int .i64 sc, .bool true] 44))
    have hBS2 := hBS.alloc hBS.size (.cells #[.string nm, .int .i64 ty, .int .i64 sc, .bool true] 44)
    generalize w9.alloc (.cells #[.string nm, .int .i64 ty, .int .i64 sc, .bool true] 44) = w8 at *
    obtain ⟨m0, m1, m2, m3, _, _, _, _⟩ := hS2
    refine bodyPost_ret (v := .tuple #[.agg #[.string ⟨#[]⟩, .int .i64 0, .int .i64 0, .bool false], .bool false]) (by simp [results, Try.results28, go_sem, m0, m1, m2, m3]) rfl ?_
    exact hE.out _ _ rfl hBS2
  | false =>
    have hE := Lib.hid (fun x w' hx => hP.out nm ty sc true b x w' hx (fun h => by
      obtain ⟨q1, q2⟩ := a1 h
      refine ⟨okC_nu q1 true, ?_⟩
      rw [nul_back h2 hn, show ws.length - 1 = m from by omega, q2, colW_base rfl]
      rfl) (fun h => by
      rintro ⟨c, hc, he⟩
      obtain ⟨b1, b2⟩ := colW_nul hc he h2 hn
      rw [show ws.length - 1 = m from by omega] at b2
      exact a2 h ⟨{ c with nu := false }, okC_nu hc false, by rw [b2, colW_base rfl]; rfl⟩))
    clear hP a1 a2 a3
    have hS := hV1.set (.string nm) (.int .i64 ty) (.int .i64 sc) (.bool true)
    have hBS := set4_below hB1 (Nat.le_refl _) (.string nm) (.int .i64 ty) (.int .i64 sc) (.bool true)
    obtain ⟨c0, c1, c2, c3, f0, f1, f2, f3⟩ := hV1
    go_wp2_with fail
    generalize (((w1.setCell ⟨W.heap.size, 0, none⟩ (.string nm)).setCell ⟨W.heap.size, 1, none⟩ (.int .i64 ty)).setCell ⟨W.heap.size, 2, none⟩ (.int .i64 sc)).setCell ⟨W.heap.size, 3, none⟩ (.bool true) = w9 at *
    have hS2 := hS.step ((Below.refl _ _).alloc (Nat.le_refl _) (.cells #[.string nm, .int .i64 ty, .int .i64 sc, .bool true] 44))
    have hBS2 := hBS.alloc hBS.size (.cells #[.string nm, .int .i64 ty, .int .i64 sc, .bool true] 44)
    generalize w9.alloc (.cells #[.string nm, .int .i64 ty, .int .i64 sc, .bool true] 44) = w8 at *
    obtain ⟨m0, m1, m2, m3, _, _, _, _⟩ := hS2
    refine bodyPost_ret (v := .tuple #[.agg #[.string nm, .int .i64 ty, .int .i64 sc, .bool true], .bool b]) (by simp [results, Try.results28, go_sem, m0, m1, m2, m3]) rfl ?_
    exact hE.out _ _ rfl hBS2
set_option maxRecDepth 100000 in
set_option maxHeartbeats 4000000 in
theorem rcol_other (ws : List (List UInt8)) (v : Value) (W : World) (hr : RdS W W.heap.size v ws) (h1 : 1 ≤ ws.length) (hn2 : ws.length ≠ 2) (hnn : ¬ (2 < ws.length ∧ ws.getD (ws.length - 1) [] = nulW))
    (h3 : ws.length = 3 → ¬ (ws.getD 1 [] = twL 5 ∧ (ws.getD 2 []).length ≤ 2)) :
    Calls Try.prog 28 #[v] W (PCW ws W) := by
  obtain ⟨A, cap, rfl, _⟩ := id hr
  obtain ⟨ad, rfl, _, hcap, hmx, hadB, hcell⟩ := hr.cells h1
  have hV := Var4F.new W (.string ⟨#[]⟩) (.int .i64 0) (.int .i64 0) (.bool false) 44
  have hB : Below W.heap.size W (W.alloc (.cells #[.string ⟨#[]⟩, .int .i64 0, .int .i64 0, .bool false] 44)) := (Below.refl _ _).alloc (Nat.le_refl _) _
  have hcell2 : ∀ i, i < ws.length → (W.alloc (.cells #[.string ⟨#[]⟩, .int .i64 0, .int .i64 0, .bool false] 44)).cell? (ad.add i) = some (.string (str (ws.getD i []))) := fun i hi => (hB.cell (by rw [block_add]; exact hadB)).trans (hcell i hi)
  have hno : ¬ ∃ c, okC c ∧ ws = colW c := by
    rintro ⟨c, hc, he⟩
    obtain ⟨q1, q2⟩ := colW_plain he hnn
    have hl := plain_len q2
    by_cases h5 : c.ty = 5
    · rw [if_pos h5] at hl
      refine h3 hl ⟨?_, ?_⟩
      · rw [q2]; unfold colB; rw [h5]; rfl
      · rw [q2]; unfold colB; rw [if_pos h5]; exact (scL_len (by have := hc.2.2.1 h5; omega)).2
    · rw [if_neg h5] at hl; exact hn2 hl
  have hE : Hid (∀ x w', x = Value.tuple #[.agg #[.string ⟨#[]⟩, .int .i64 0, .int .i64 0, .bool false], .bool false] → Below W.heap.size W w' → PCW ws W (.returned x) w') :=
    Lib.hid fun x w' hx hb => PCW.mk' ⟨#[]⟩ 0 0 false false hx (fun h => by cases h) (fun _ => hno) (fun h => by cases h) hb
  clear hno
  unfold maxLen at hmx
  generalize PCW ws W = P at *
  by_cases hc1 : ws.length = 1
  · rw [hc1]
    clear hcell hcell2 hnn h3 hn2 hr
    go_enter Try.func28, Try.ntmps28
    go_wp2_with fail
    obtain ⟨m0, m1, m2, m3, _, _, _, _⟩ := hV
    refine bodyPost_ret (v := .tuple #[.agg #[.string ⟨#[]⟩, .int .i64 0, .int .i64 0, .bool false], .bool false]) (by simp [results, Try.results28, go_sem, m0, m1, m2, m3]) rfl ?_
    exact hE.out _ _ rfl hB
  obtain ⟨m, hm⟩ : ∃ m, ws.length = m + 1 := ⟨ws.length - 1, by omega⟩
  have hlast := hcell2 m (by omega)
  have hne : ((str (ws.getD m [])).toList == [110, 117, 108, 108]) = false := str_ne (m := nulW) (fun e => hnn ⟨by omega, by rw [hm]; exact e⟩)
  by_cases hc3 : ws.length = 3
  · have h31 := hcell 1 (by omega)
    have h32 := hcell 2 (by omega)
    rw [at_k _ (by decide)] at h31 h32
    clear hlast
    have h3' := h3 hc3
    obtain rfl : m = 2 := by omega
    have hm2 : (3 : Nat) ≤ cap := by omega
    rw [hc3]
    clear hcell hcell2 hnn h3 hr hcap hm hn2 hc3 hc1 h1
    by_cases hd : ws.getD 1 [] = twL 5
    · have hl2 : 2 < (str (ws.getD 2 [])).size := by rw [size_of]; have : ¬ (ws.getD 2 []).length ≤ 2 := fun h => h3' ⟨hd, h⟩; omega
      rw [hd, show str (twL 5) = ⟨#[100, 101, 99, 105, 109, 97, 108]⟩ from rfl] at h31
      clear h3' hd
      generalize str (ws.getD 2 []) = X at *
      go_enter Try.func28, Try.ntmps28
      go_wp2_with fail
      obtain ⟨m0, m1, m2, m3, _, _, _, _⟩ := hV
      refine bodyPost_ret (v := .tuple #[.agg #[.string ⟨#[]⟩, .int .i64 0, .int .i64 0, .bool false], .bool false]) (by simp [results, Try.results28, go_sem, m0, m1, m2, m3]) rfl ?_
      exact hE.out _ _ rfl hB
    · have hd2 : ((str (ws.getD 1 [])).toList == [100, 101, 99, 105, 109, 97, 108]) = false := str_ne hd
      clear h3' hd
      generalize str (ws.getD 2 []) = X at *
      generalize str (ws.getD 1 []) = Y at *
      go_enter Try.func28, Try.ntmps28
      go_wp2_with fail
      obtain ⟨m0, m1, m2, m3, _, _, _, _⟩ := hV
      refine bodyPost_ret (v := .tuple #[.agg #[.string ⟨#[]⟩, .int .i64 0, .int .i64 0, .bool false], .bool false]) (by simp [results, Try.results28, go_sem, m0, m1, m2, m3]) rfl ?_
      exact hE.out _ _ rfl hB
  · have hm3 : 3 ≤ m := by omega
    have hcap2 : m + 1 ≤ cap := by omega
    rw [hm]
    clear hcell hcell2 hnn h3 hr hcap hn2 hc3 hc1 h1
    generalize str (ws.getD m []) = X at *
    clear hm
    go_enter Try.func28, Try.ntmps28
    go_wp2_with fail
    obtain ⟨m0, m1, m2, m3, _, _, _, _⟩ := hV
    refine bodyPost_ret (v := .tuple #[.agg #[.string ⟨#[]⟩, .int .i64 0, .int .i64 0, .bool false], .bool false]) (by simp [results, Try.results28, go_sem, m0, m1, m2, m3]) rfl ?_
    exact hE.out _ _ rfl hB
set_option maxRecDepth 100000 in
set_option maxHeartbeats 4000000 in
theorem rcol_three (a d : List UInt8) (v : Value) (W : World) (hr : RdS W W.heap.size v [a, twL 5, d]) (ha : isW a) (hd : d.length ≤ 2) :
    Calls Try.prog 28 #[v] W (PCW [a, twL 5, d] W) := by
  have HN := fun w => Lib.hid (rnum2_any d w hd)
  have hnn : ¬ (2 < [a, twL 5, d].length ∧ [a, twL 5, d].getD ([a, twL 5, d].length - 1) [] = nulW) := fun h => by
    have h2 : d = nulW := h.2
    rw [h2] at hd; exact absurd hd (by decide)
  have hdn : ((str d).toList == [110, 117, 108, 108]) = false := str_ne (m := nulW) (fun e => hnn ⟨by simp, e⟩)
  obtain ⟨A, cap, rfl, _⟩ := id hr
  obtain ⟨ad, rfl, _, hcap, hmx, hadB, hcell⟩ := hr.cells (by simp)
  have h30 := hcell 0 (by simp)
  have h31 := hcell 1 (by simp)
  have h32 := hcell 2 (by simp)
  rw [at_k _ (by decide)] at h31 h32
  have h30' := h30
  rw [at_0] at h30'
  change _ = some (Value.string (str a)) at h30
  change _ = some (Value.string (str a)) at h30'
  change _ = some (Value.string ⟨#[100, 101, 99, 105, 109, 97, 108]⟩) at h31
  change _ = some (Value.string (str d)) at h32
  have hl2 : (str d).size ≤ 2 := by rw [size_of]; exact hd
  have hYES : Hid (∀ m x w', m < 100 → d = scL m → x = Value.tuple #[.agg #[.string (str a), .int .i64 5, .int .i64 (m : Nat), .bool false], .bool true] → Below W.heap.size W w' → PCW [a, twL 5, d] W (.returned x) w') :=
    Lib.hid fun m x w' hm he hx hb => by
      obtain ⟨q1, q2⟩ := plain_three (a := a) (d := d) ha hm rfl he
      exact PCW.mk' (str a) 5 m false true hx (fun _ => ⟨q1, q2⟩) (fun h => by cases h) (fun h => by cases h) hb
  have hNO : Hid (∀ n x w', ¬ isSc d → x = Value.tuple #[.agg #[.string (str a), .int .i64 5, .int .i64 n, .bool false], .bool false] → Below W.heap.size W w' → PCW [a, twL 5, d] W (.returned x) w') :=
    Lib.hid fun n x w' hno hx hb => PCW.mk' (str a) 5 n false false hx (fun h => by cases h) (fun _ => by
      rintro ⟨c, hc, he⟩
      obtain ⟨q1, q2⟩ := colW_plain he hnn
      have hl := plain_len q2
      by_cases h5 : c.ty = 5
      · unfold colB at q2
        rw [if_pos h5] at q2
        simp only [List.cons.injEq, and_true] at q2
        exact hno ⟨c.sc.toNat, by have := hc.2.2.1 h5; omega, q2.2.2⟩
      · rw [if_neg h5] at hl; exact absurd hl (by simp)) (fun h => by cases h) hb
  change 3 ≤ cap at hcap
  unfold maxLen at hmx
  clear hcell hr hnn hd
  rw [show [a, twL 5, d].length = 3 from rfl]
  generalize PCW [a, twL 5, d] W = P at *
  generalize str a = X at *
  have hB0 : Below W.heap.size W W := Below.refl _ _
  go_enter Try.func28, Try.ntmps28
  go_wp2_with fail
  refine (HN _).out.mono ?_
  rintro e w1 ⟨rfl, n, c, rfl, ⟨m, hm, hd, rfl, rfl⟩ | ⟨hno, hc⟩⟩
  · have hE := fun x w' => Lib.hid (hYES.out m x w' hm hd)
    clear hYES hNO HN hdn hd
    go_wp2_with fail
    have hS := Var4F.new W (.string X) (.int .i64 5) (.int .i64 (m : Nat)) (.bool false) 44
    have hBS : Below W.heap.size W (W.alloc (.cells #[.string X, .int .i64 5, .int .i64 (m : Nat), .bool false] 44)) := (Below.refl _ _).alloc (Nat.le_refl _) _
    generalize W.alloc (.cells #[.string X, .int .i64 5, .int .i64 (m : Nat), .bool false] 44) = w9 at *
    obtain ⟨m0, m1, m2, m3, _, _, _, _⟩ := hS
    refine bodyPost_ret (v := .tuple #[.agg #[.string X, .int .i64 5, .int .i64 (m : Nat), .bool false], .bool true]) (by simp [results, Try.results28, go_sem, m0, m1, m2, m3]) rfl ?_
    exact (hE _ _).out rfl hBS
  · have hE := fun x w' => Lib.hid (hNO.out n x w' hno)
    clear hYES hNO HN hdn hno
    by_cases h0 : c = 0
    · subst h0
      have hn : decide ((0 : Int) ≤ n) = false := decide_eq_false (by omega)
      go_wp2_with fail
      have hS := Var4F.new W (.string X) (.int .i64 5) (.int .i64 n) (.bool false) 44
      have hBS : Below W.heap.size W (W.alloc (.cells #[.string X, .int .i64 5, .int .i64 n, .bool false] 44)) := (Below.refl _ _).alloc (Nat.le_refl _) _
      generalize W.alloc (.cells #[.string X, .int .i64 5, .int .i64 n, .bool false] 44) = w9 at *
      obtain ⟨m0, m1, m2, m3, _, _, _, _⟩ := hS
      refine bodyPost_ret (v := .tuple #[.agg #[.string X, .int .i64 5, .int .i64 n, .bool false], .bool false]) (by simp [results, Try.results28, go_sem, m0, m1, m2, m3]) rfl ?_
      exact (hE _ _).out rfl hBS
    · have hn : (c == 0) = false := ieq_f h0
      clear hc
      go_wp2_with fail
      have hS := Var4F.new W (.string X) (.int .i64 5) (.int .i64 n) (.bool false) 44
      have hBS : Below W.heap.size W (W.alloc (.cells #[.string X, .int .i64 5, .int .i64 n, .bool false] 44)) := (Below.refl _ _).alloc (Nat.le_refl _) _
      generalize W.alloc (.cells #[.string X, .int .i64 5, .int .i64 n, .bool false] 44) = w9 at *
      obtain ⟨m0, m1, m2, m3, _, _, _, _⟩ := hS
      refine bodyPost_ret (v := .tuple #[.agg #[.string X, .int .i64 5, .int .i64 n, .bool false], .bool false]) (by simp [results, Try.results28, go_sem, m0, m1, m2, m3]) rfl ?_
      exact (hE _ _).out rfl hBS
set_option maxRecDepth 100000 in
set_option maxHeartbeats 4000000 in
theorem rcol_two (a b : List UInt8) (v : Value) (W : World) (hr : RdS W W.heap.size v [a, b]) (ha : isW a) :
    Calls Try.prog 28 #[v] W (PCW [a, b] W) := by
  have hnn : ¬ (2 < [a, b].length ∧ [a, b].getD ([a, b].length - 1) [] = nulW) := fun h => absurd h.1 (by simp)
  obtain ⟨A, cap, rfl, _⟩ := id hr
  obtain ⟨ad, rfl, _, hcap, hmx, hadB, hcell⟩ := hr.cells (by simp)
  have h30 := hcell 0 (by simp)
  have h31 := hcell 1 (by simp)
  rw [at_k _ (by decide)] at h31
  have h30' := h30
  rw [at_0] at h30'
  change _ = some (Value.string (str a)) at h30
  change _ = some (Value.string (str a)) at h30'
  change _ = some (Value.string (str b)) at h31
  have hYES : Hid (∀ ty x w', okT ty = true → ty ≠ 5 → b = twL ty → x = Value.tuple #[.agg #[.string (str a), .int .i64 ty, .int .i64 0, .bool false], .bool true] → Below W.heap.size W w' → PCW [a, b] W (.returned x) w') :=
    Lib.hid fun ty x w' ht h5 he hx hb => by
      obtain ⟨q1, q2⟩ := plain_two (a := a) (b := b) ha ht h5 he
      exact PCW.mk' (str a) ty 0 false true hx (fun _ => ⟨q1, q2⟩) (fun h => by cases h) (fun h => by cases h) hb
  have hNO : Hid (∀ x w', (∀ ty, okT ty = true → ty ≠ 5 → b ≠ twL ty) → x = Value.tuple #[.agg #[.string (str a), .int .i64 0, .int .i64 0, .bool false], .bool false] → Below W.heap.size W w' → PCW [a, b] W (.returned x) w') :=
    Lib.hid fun x w' hno hx hb => PCW.mk' (str a) 0 0 false false hx (fun h => by cases h) (fun _ => by
      rintro ⟨c, hc, he⟩
      obtain ⟨q1, q2⟩ := colW_plain he hnn
      have hl := plain_len q2
      by_cases h5 : c.ty = 5
      · rw [if_pos h5] at hl; exact absurd hl (by simp)
      · unfold colB at q2
        rw [if_neg h5] at q2
        simp only [List.cons.injEq, and_true] at q2
        exact hno c.ty hc.2.1 h5 q2.2) (fun h => by cases h) hb
  change 2 ≤ cap at hcap
  unfold maxLen at hmx
  clear hcell hr hnn ha
  rw [show [a, b].length = 2 from rfl]
  generalize PCW [a, b] W = P at *
  generalize str a = X at *
  by_cases b1 : b = twL 1
  · have hE := fun x w' => Lib.hid (hYES.out 1 x w' (by decide) (by decide) b1)
    clear hYES hNO
    rw [b1, show str (twL 1) = ⟨#[105, 110, 116]⟩ from rfl] at h31
    clear b1
    go_enter Try.func28, Try.ntmps28
    go_wp2_with fail
    go_region
    go_wp2_with fail
    have hS := ((Var4F.new W (.string X) (.int .i64 1) (.int .i64 0) (.bool false) 44).step ((Below.refl _ _).alloc (Nat.le_refl _) (.cells #[.string X, .int .i64 1, .int .i64 0, .bool false] 44))).step ((Below.refl _ _).drew)
    have hBS : Below W.heap.size W ((W.alloc (.cells #[.string X, .int .i64 1, .int .i64 0, .bool false] 44)).alloc (.cells #[.string X, .int .i64 1, .int .i64 0, .bool false] 44)).drew := (((Below.refl _ _).alloc (Nat.le_refl _) _).alloc (by simp) _).drew
    generalize ((W.alloc (.cells #[.string X, .int .i64 1, .int .i64 0, .bool false] 44)).alloc (.cells #[.string X, .int .i64 1, .int .i64 0, .bool false] 44)).drew = w9 at *
    obtain ⟨m0, m1, m2, m3, _, _, _, _⟩ := hS
    refine bodyPost_ret (v := .tuple #[.agg #[.string X, .int .i64 1, .int .i64 0, .bool false], .bool true]) (by simp [results, Try.results28, go_sem, m0, m1, m2, m3]) rfl ?_
    exact (hE _ _).out rfl hBS
  have d1 : ((str b).toList == [105, 110, 116]) = false := str_ne b1
  by_cases b2 : b = twL 2
  · have hE := fun x w' => Lib.hid (hYES.out 2 x w' (by decide) (by decide) b2)
    clear hYES hNO
    rw [b2, show str (twL 2) = ⟨#[98, 111, 111, 108]⟩ from rfl] at h31
    clear b2
    go_enter Try.func28, Try.ntmps28
    go_wp2_with fail
    go_region
    go_wp2_with fail
    have hS := ((Var4F.new W (.string X) (.int .i64 2) (.int .i64 0) (.bool false) 44).step ((Below.refl _ _).alloc (Nat.le_refl _) (.cells #[.string X, .int .i64 2, .int .i64 0, .bool false] 44))).step ((Below.refl _ _).drew)
    have hBS : Below W.heap.size W ((W.alloc (.cells #[.string X, .int .i64 2, .int .i64 0, .bool false] 44)).alloc (.cells #[.string X, .int .i64 2, .int .i64 0, .bool false] 44)).drew := (((Below.refl _ _).alloc (Nat.le_refl _) _).alloc (by simp) _).drew
    generalize ((W.alloc (.cells #[.string X, .int .i64 2, .int .i64 0, .bool false] 44)).alloc (.cells #[.string X, .int .i64 2, .int .i64 0, .bool false] 44)).drew = w9 at *
    obtain ⟨m0, m1, m2, m3, _, _, _, _⟩ := hS
    refine bodyPost_ret (v := .tuple #[.agg #[.string X, .int .i64 2, .int .i64 0, .bool false], .bool true]) (by simp [results, Try.results28, go_sem, m0, m1, m2, m3]) rfl ?_
    exact (hE _ _).out rfl hBS
  have d2 : ((str b).toList == [98, 111, 111, 108]) = false := str_ne b2
  by_cases b3 : b = twL 3
  · have hE := fun x w' => Lib.hid (hYES.out 3 x w' (by decide) (by decide) b3)
    clear hYES hNO
    rw [b3, show str (twL 3) = ⟨#[98, 121, 116, 101, 115]⟩ from rfl] at h31
    clear b3
    go_enter Try.func28, Try.ntmps28
    go_wp2_with fail
    go_region
    go_wp2_with fail
    have hS := ((Var4F.new W (.string X) (.int .i64 3) (.int .i64 0) (.bool false) 44).step ((Below.refl _ _).alloc (Nat.le_refl _) (.cells #[.string X, .int .i64 3, .int .i64 0, .bool false] 44))).step ((Below.refl _ _).drew)
    have hBS : Below W.heap.size W ((W.alloc (.cells #[.string X, .int .i64 3, .int .i64 0, .bool false] 44)).alloc (.cells #[.string X, .int .i64 3, .int .i64 0, .bool false] 44)).drew := (((Below.refl _ _).alloc (Nat.le_refl _) _).alloc (by simp) _).drew
    generalize ((W.alloc (.cells #[.string X, .int .i64 3, .int .i64 0, .bool false] 44)).alloc (.cells #[.string X, .int .i64 3, .int .i64 0, .bool false] 44)).drew = w9 at *
    obtain ⟨m0, m1, m2, m3, _, _, _, _⟩ := hS
    refine bodyPost_ret (v := .tuple #[.agg #[.string X, .int .i64 3, .int .i64 0, .bool false], .bool true]) (by simp [results, Try.results28, go_sem, m0, m1, m2, m3]) rfl ?_
    exact (hE _ _).out rfl hBS
  have d3 : ((str b).toList == [98, 121, 116, 101, 115]) = false := str_ne b3
  by_cases b4 : b = twL 4
  · have hE := fun x w' => Lib.hid (hYES.out 4 x w' (by decide) (by decide) b4)
    clear hYES hNO
    rw [b4, show str (twL 4) = ⟨#[100, 97, 116, 101]⟩ from rfl] at h31
    clear b4
    go_enter Try.func28, Try.ntmps28
    go_wp2_with fail
    go_region
    go_wp2_with fail
    have hS := ((Var4F.new W (.string X) (.int .i64 4) (.int .i64 0) (.bool false) 44).step ((Below.refl _ _).alloc (Nat.le_refl _) (.cells #[.string X, .int .i64 4, .int .i64 0, .bool false] 44))).step ((Below.refl _ _).drew)
    have hBS : Below W.heap.size W ((W.alloc (.cells #[.string X, .int .i64 4, .int .i64 0, .bool false] 44)).alloc (.cells #[.string X, .int .i64 4, .int .i64 0, .bool false] 44)).drew := (((Below.refl _ _).alloc (Nat.le_refl _) _).alloc (by simp) _).drew
    generalize ((W.alloc (.cells #[.string X, .int .i64 4, .int .i64 0, .bool false] 44)).alloc (.cells #[.string X, .int .i64 4, .int .i64 0, .bool false] 44)).drew = w9 at *
    obtain ⟨m0, m1, m2, m3, _, _, _, _⟩ := hS
    refine bodyPost_ret (v := .tuple #[.agg #[.string X, .int .i64 4, .int .i64 0, .bool false], .bool true]) (by simp [results, Try.results28, go_sem, m0, m1, m2, m3]) rfl ?_
    exact (hE _ _).out rfl hBS
  have d4 : ((str b).toList == [100, 97, 116, 101]) = false := str_ne b4
  have hE := fun x w' => Lib.hid (hNO.out x w' (fun ty ht h5 e => by
    rcases okT_five ht with rfl | rfl | rfl | rfl | rfl
    · exact b1 e
    · exact b2 e
    · exact b3 e
    · exact b4 e
    · exact h5 rfl))
  clear hYES hNO b1 b2 b3 b4
  generalize str b = Y at *
  go_enter Try.func28, Try.ntmps28
  go_wp2_with fail
  go_region
  go_wp2_with fail
  have hS := ((Var4F.new W (.string X) (.int .i64 0) (.int .i64 0) (.bool false) 44).step ((Below.refl _ _).alloc (Nat.le_refl _) (.cells #[.string X, .int .i64 0, .int .i64 0, .bool false] 44))).step ((Below.refl _ _).drew)
  have hBS : Below W.heap.size W ((W.alloc (.cells #[.string X, .int .i64 0, .int .i64 0, .bool false] 44)).alloc (.cells #[.string X, .int .i64 0, .int .i64 0, .bool false] 44)).drew := (((Below.refl _ _).alloc (Nat.le_refl _) _).alloc (by simp) _).drew
  generalize ((W.alloc (.cells #[.string X, .int .i64 0, .int .i64 0, .bool false] 44)).alloc (.cells #[.string X, .int .i64 0, .int .i64 0, .bool false] 44)).drew = w9 at *
  obtain ⟨m0, m1, m2, m3, _, _, _, _⟩ := hS
  refine bodyPost_ret (v := .tuple #[.agg #[.string X, .int .i64 0, .int .i64 0, .bool false], .bool false]) (by simp [results, Try.results28, go_sem, m0, m1, m2, m3]) rfl ?_
  exact (hE _ _).out rfl hBS
/-- The reference's ReadColumn. -/
theorem rcol_any (ws : List (List UInt8)) (v : Value) (w : World) (hr : RdS w w.heap.size v ws) (h1 : 1 ≤ ws.length) (hw : ∀ t ∈ ws, isW t) : Calls Try.prog 28 #[v] w (PCW ws w) := by
  induction h : ws.length using Nat.strongRecOn generalizing ws v w with
  | ind n ih =>
    by_cases hn : 2 < ws.length ∧ ws.getD (ws.length - 1) [] = nulW
    · refine rcol_null ws v w hr hn.1 hn.2 fun v' w' hr' => ?_
      have hl : (ws.take (ws.length - 1)).length = ws.length - 1 := by rw [List.length_take]; omega
      exact ih (ws.length - 1) (by omega) _ v' w' hr' (by omega) (fun t ht => hw t (List.mem_of_mem_take ht)) hl
    · match ws, hw, hn, hr, h1 with
      | [a, b], hw, _, hr, _ => exact rcol_two a b v w hr (hw a (by simp))
      | [a, b, d], hw, hn, hr, _ =>
        by_cases h3 : b = twL 5 ∧ d.length ≤ 2
        · obtain ⟨rfl, hd⟩ := h3
          exact rcol_three a d v w hr (hw a (by simp)) hd
        · exact rcol_other _ v w hr (by simp) (by simp) hn (fun _ => h3)
      | [a], _, hn, hr, h1 => exact rcol_other _ v w hr h1 (by simp) hn (fun h => by simp at h)
      | a :: b :: d :: f :: r, _, hn, hr, h1 => exact rcol_other _ v w hr h1 (by simp) hn (fun h => by simp at h)
end Go.Proofs.Ytfkdenlpailmeaa
