/- The statements' own package: Split. -/
import Derived.Test.YtjbkeipagdmlpaaBt6b
import Derived.Test.YtjbkeipagdmlpaaBt5b
namespace Go.RS
open Go.RowKit Go.VB Go.VS Go.VL Go.SC Go.CK Go.ST Go.MK
theorem sub_eq {n i m : Nat} (h : m = n - i) (hi : i ≤ n) : ((n : Int) - (i : Int)) = (m : Int) := by omega
theorem add_eq {i s e : Nat} (h : e = i + s) : ((i : Int) + (s : Int)) = (e : Int) := by omega
theorem ownK_sl {α : Type} {L : Lay α} {e : TypeId} {w : World} {b : Nat} {v : Value} {l : List α} (h : OwnK L e w b v l) : ∃ A n c, v = .slice A n c := by
  rcases h.forms with ⟨rfl, _⟩ | ⟨g, c, rfl, _⟩
  · exact ⟨none, 0, 0, rfl⟩
  · exact ⟨_, _, _, rfl⟩
/-- The slices hold these lists of records; each is the call's own, their rows lie in the world W. -/
def DeepPK (e : TypeId) (W w : World) (b : Nat) (ps : List Sl) (rs : List (List Rc)) : Prop := ps.length = rs.length ∧ ∀ (i : Nat) (p : Sl) (l : List Rc), ps[i]? = some p → rs[i]? = some l → ∃ qs, OwnK recL e w b p.val qs ∧ DeepR W W.heap.size qs l
section
variable {e : TypeId} {W w w' : World} {b b' : Nat} {ps : List Sl} {rs : List (List Rc)}
theorem DeepPK.nil (e : TypeId) (W w : World) (b : Nat) : DeepPK e W w b [] [] := ⟨rfl, fun i p r h _ => by simp at h⟩
theorem DeepPK.below (h : DeepPK e W w b ps rs) (hb : Below w.heap.size w w') : DeepPK e W w' b ps rs := ⟨h.1, fun i p r h1 h2 => by obtain ⟨qs, h3, h4⟩ := h.2 i p r h1 h2; exact ⟨qs, h3.below hb, h4⟩⟩
theorem DeepPK.keep {b2 s2 n2 : Nat} {e2 : TypeId} {v2 : Value} {xs : List Value} (h : DeepPK e W w b ps rs) (h2 : w.ownsRow b2 e2 s2 v2 n2 xs) (he : e ≠ e2) (hg : w.grownBy w' v2.ownBlock) : DeepPK e W w' b ps rs :=
  ⟨h.1, fun i p r h3 h4 => by obtain ⟨qs, h5, h6⟩ := h.2 i p r h3 h4; exact ⟨qs, h5.keep hg (own_apart h5 h2 he), h6⟩⟩
theorem DeepPK.read (h : DeepPK e W w b ps rs) (hb : Below W.heap.size W w) : DeepP w w.heap.size ps rs := ⟨h.1, fun i p r h1 h2 => by
  obtain ⟨qs, h3, h4⟩ := h.2 i p r h1 h2
  exact ⟨qs, OwnK.read h3, (h4.below hb).more hb.size⟩⟩
theorem DeepPK.snoc {p : Sl} {l : List Rc} {qs : List Rs} (h : DeepPK e W w b ps rs) (hp : OwnK recL e w b p.val qs) (hd : DeepR W W.heap.size qs l) : DeepPK e W w b (ps ++ [p]) (rs ++ [l]) :=
  ⟨by rw [List.length_append, List.length_append, h.1]; rfl, snoc_cases h.1 (P := fun p l => ∃ qs, OwnK recL e w b p.val qs ∧ DeepR W W.heap.size qs l) h.2 ⟨qs, hp, hd⟩⟩
end
/-- It returns lists of records that can be read; what was there is as it was. -/
def RetP (rs : List (List Rc)) (w : World) : Ending → World → Prop := fun en w' => ∃ v, en = .returned v ∧ RdP w' w'.heap.size v rs ∧ Below w.heap.size w w'
theorem RetP.mk {rs : List (List Rc)} {w w' : World} {x v : Value} (hx : x = v) (h : RdP w' w'.heap.size v rs) (hb : Below w.heap.size w w') : RetP rs w (.returned x) w' := ⟨v, by rw [hx], h, hb⟩
end Go.RS
namespace Go.Proofs.Ytjbkeipagdmlpaa
open Go.RowKit Go.VB Go.VS Go.VL Go.SC Go.CK Go.ST Go.MK Go.RS
set_option linter.constructorNameAsVariable false
set_option maxRecDepth 100000 in
set_option maxHeartbeats 1000000 in
theorem rsplit_any (x : Value) (l : List Rc) (n : Int) (W : World) (hx : RdR W W.heap.size x l) (hb : l.length * 32 ≤ 140737488351232) :
    Calls Try.prog 33 #[x, .int .i64 n] W (RetP (prtL n l) W) := by
  by_cases h1 : n < 1
  · rw [prtL_out h1]
    have hd : decide (n < 1) = true := decide_eq_true h1
    clear h1 hx hb
    go_enter Try.func33, Try.ntmps33
    go_wp2
    go_ret
    exact RetP.mk rfl (RdP.nil _ _) (Below.refl _ _)
  have hd1 : decide (n < 1) = false := decide_eq_false h1
  obtain ⟨k, rfl⟩ : ∃ k : Nat, n = k := ⟨n.toNat, by omega⟩
  have hk1 : 1 ≤ k := by omega
  rw [prtL_in hk1]
  obtain ⟨A, c, n0, rfl, hn0, hnc, hcm⟩ := hx.bds
  have HX := Lib.hid hx; have HZ := Lib.hid hb; have HN := Lib.hid hn0
  clear hx hb h1 hn0
  go_enter Try.func33, Try.ntmps33
  go_wp2
  clear hd1
  go_loopw [5, 6, 7] (fun pv iv _ wr => ∃ (i : Nat) (ps : List Sl), iv = .int .i64 i ∧ i ≤ n0 ∧ OwnV Sl.val 24 wr W.heap.size pv ps ∧ Hid (DeepPK 41 W wr W.heap.size ps (prt k (l.take i))) ∧ Hid (i < l.length → ∃ q, i = k * q) ∧ Below W.heap.size W wr) (fun _ iv _ _ => n0 - (intOf iv).toNat)
  case atStart => exact ⟨0, [], rfl, Nat.zero_le _, OwnV.nil _ _ _ _, Lib.hid (by rw [List.take_zero, prt_nil]; exact DeepPK.nil _ _ _ _), Lib.hid (fun _ => ⟨0, rfl⟩), Below.refl _ _⟩
  case round =>
    obtain ⟨i, ps, rfl, hi, hown, HD, HI, hbel⟩ := hrel
    by_cases hlt : i < n0
    case neg =>
      have HF := Lib.hid (show l.take i = l from List.take_of_length_le (by have := HN.out; omega))
      have hd := HD.out.read hbel
      rw [HF.out] at hd
      have HRD := Lib.hid (show RdP wr wr.heap.size _ (prt k l) from ⟨ps, hown.read, hd⟩)
      have hd0 : decide ((i : Int) < (n0 : Int)) = false := decide_eq_false (by omega)
      clear hd HD HI hown
      go_wp2
      go_ret
      exact RetP.mk rfl HRD.out hbel
    have hil : i < l.length := by have := HN.out; omega
    obtain ⟨y, hy⟩ : ∃ y, l[i]? = some y := ⟨l[i], List.getElem?_eq_getElem hil⟩
    obtain ⟨ad, -, -, -, rfl, -⟩ := HX.out.at hy
    obtain ⟨m, hm⟩ : ∃ m, m = n0 - i := ⟨_, rfl⟩
    obtain ⟨sz, hsz⟩ : ∃ sz, sz = min k m := ⟨_, rfl⟩
    obtain ⟨e, he⟩ : ∃ e, e = i + sz := ⟨_, rfl⟩
    have hs1 : 1 ≤ sz := by omega
    have hsm : sz ≤ m := by omega
    have hHM : m = l.length - i := by have := HN.out; omega
    have HST := Lib.hid (show prt k (l.take e) = prt k (l.take i) ++ [(l.drop i).take sz] by rw [he]; exact prt_step (n := k) (i := i) (k := sz) (by omega) hil (HI.out hil) (by rw [← hHM]; exact hsz))
    have HIN := Lib.hid (show e < l.length → ∃ q, e = k * q from fun h => by
      obtain ⟨q, hq⟩ := HI.out hil
      exact ⟨q + 1, by rw [Nat.mul_add, Nat.mul_one, ← hq]; omega⟩)
    have hrd := (HX.out.head (k := e) (by omega)).cutC (i := i) (by rw [List.length_take]; omega)
    have hci : ¬ c = i := by omega
    rw [if_neg hci, show (l.take e).drop i = (l.drop i).take sz by rw [List.drop_take, he, Nat.add_sub_cancel_left]] at hrd
    obtain ⟨qs, hq1, hq2⟩ := hrd
    have HQ1 := Lib.hid (hq1.below hbel); have HQ2 := Lib.hid hq2
    have HQL := Lib.hid (show qs.length ≤ 4398046510976 by rw [hq2.1, List.length_take, List.length_drop]; have := HZ.out; omega)
    have HPL := Lib.hid (show ps.length ≤ 4398046510976 by
      have h2 := prt_len (n := k) (by omega) _ (l.take i) (Nat.le_refl _)
      have h3 := HD.out.1
      rw [List.length_take] at h2
      have := HZ.out
      omega)
    have hn42 : n0 ≤ 4398046510976 := by have := HN.out; have := HZ.out; omega
    have HIL := Lib.hid (show e ≤ n0 by omega)
    have HIE := Lib.hid (show i < e by omega)
    have hie : (i : Int) ≤ (e : Int) := by omega
    have hec : (e : Int) ≤ (c : Int) := by omega
    have hien : i ≤ e := by omega
    have hecn : e ≤ c := by omega
    have HOWN := Lib.hid hown; have HBEL := Lib.hid hbel
    have hwW : W.heap.size ≤ wr.heap.size := hbel.size
    have HSUB := Lib.hid (sub_eq hm (Nat.le_of_lt hlt))
    have HADD := Lib.hid (add_eq he)
    have HA1 := Lib.hid (show ([] : List Rs).length + qs.length ≤ maxLen by have := HQL.out; unfold maxLen; simp only [List.length_nil]; omega)
    have HA2 := Lib.hid (show (([] : List Rs).length + qs.length) * 32 ≤ 140737488355328 by have := HQL.out; simp only [List.length_nil]; omega)
    have HA3 := fun x : Sl => Lib.hid (show ps.length + [x].length ≤ maxLen by have := HPL.out; unfold maxLen; simp only [List.length_cons, List.length_nil]; omega)
    have HA4 := fun x : Sl => Lib.hid (show (ps.length + [x].length) * 24 ≤ 140737488355328 by have := HPL.out; simp only [List.length_cons, List.length_nil]; omega)
    have hd0 : decide ((i : Int) < (n0 : Int)) = true := decide_eq_true (by omega)
    have hd0' : decide (i < n0) = true := decide_eq_true hlt
    have hcase : (sz = m ∧ m < k) ∨ (sz = k ∧ k ≤ m) := by omega
    clear hown hbel hy hsz hil HI hi hq1 hq2 hHM he hlt hm
    rcases hcase with ⟨rfl, hmk⟩ | ⟨rfl, hmk⟩
    all_goals
      have hmk' := Int.ofNat_le.2 (show _ ≤ _ by first | exact Nat.le_of_lt hmk | exact hmk)
      have hsub := HSUB.out
      have hadd := HADD.out
      go_wp2_with (first
        | (at_builtin; refine wpl_appK (L := recL) rfl _ _ 24 rfl wr.heap.size 41 32 Try.underlying24 Try.infRec (.slice none 0 0) [] rfl (OwnK.nil _ _ _ _) W.heap.size _ qs rfl HQ1.out HA1.out HA2.out (Nat.le_refl _) ?_; intro v1 w1 ho1 hb1 _; obtain ⟨sA, sn, sc, rfl⟩ := ownK_sl ho1
           have hbl := (Below.refl w1.heap.size w1).alloc (Nat.le_refl _) (.cells #[.slice sA sn sc] 24)
           have HO1 := Lib.hid ((HOWN.out.below hb1).alloc (.cells #[.slice sA sn sc] 24))
           have HP1 := Lib.hid ((ho1.lower hwW).below hbl)
           have HD1 := Lib.hid ((HD.out.below hb1).below hbl)
           have HRD := Lib.hid (RdV.one Sl.val w1 (⟨sA, sn, sc⟩ : Sl) 1 24 (Nat.le_refl 1) (by decide))
           have HLE := Lib.hid (show W.heap.size ≤ (w1.alloc (.cells #[.slice sA sn sc] 24)).heap.size from Nat.le_trans hwW (Nat.le_trans hb1.size hbl.size))
           have HBB := Lib.hid ((HBEL.out.trans (hb1.mono hwW)).trans (hbl.mono (Nat.le_trans hwW hb1.size)))
           clear hb1 hbl ho1)
        | (at_builtin; refine wpl_appV (f := Sl.val) (fun _ => rfl) (.slice none 0 0) rfl rfl _ _ 22 rfl W.heap.size 24 24 Try.underlying22 Try.infSr _ ps rfl HO1.out _ _ [⟨sA, sn, sc⟩] rfl HRD.out (HA3 _).out (HA4 _).out HLE.out ?_
           intro v' w' hown' hb' hg'
           have hdn := (HD1.out.keep HO1.out (by decide) hg').snoc (p := ⟨sA, sn, sc⟩) (HP1.out.keep hg' (own_apart HP1.out HO1.out (by decide))) HQ2.out
           rw [← HST.out] at hdn
           have HDN := Lib.hid hdn
           have HBN := Lib.hid (HBB.out.trans hb')
           clear hdn hb' hg'))
      clear hsub hadd
      go_roundw
      all_goals first
        | (have h1 := HIE.out; have h2 := HIL.out; simp [intOf]; omega)
        | exact ⟨e, _, by go_num, HIL.out, hown', HDN, HIN, HBN.out⟩
        | exact ⟨_, _, _, ⟨e, _, by go_num, HIL.out, hown', HDN, HIN, HBN.out⟩, rfl, rfl, rfl⟩
end Go.Proofs.Ytjbkeipagdmlpaa

namespace Go.RS
open Go.RowKit Go.VB Go.VS Go.VL Go.SC Go.CK Go.ST Go.MK
theorem srtR_pw (ty : Int) (k : Nat) (l : List Rc) : (srtR ty k l).Pairwise (fun a b => recLe ty k a b = true) := (srtL_spec (recLe_ord ty k) l).srt
/-- One record more, put behind all that are not greater. -/
theorem srtR_ins {ty : Int} {k j kk : Nat} {l O : List Rc} {r : Rc} (hr : l[j]? = some r) (hO : O = srtR ty k (l.take j)) (hg : ∀ (i : Nat) (x : Rc), kk ≤ i → O[i]? = some x → recLe ty k x r = false)
    (hl : kk = 0 ∨ ∃ y, O[kk - 1]? = some y ∧ recLe ty k y r = true) : O.take kk ++ r :: O.drop kk = srtR ty k (l.take (j + 1)) := by
  subst hO
  refine srtR_is ?_
  rw [take_snoc hr]
  refine IsS.ins (recLe_ord ty k) (by rw [List.take_append_drop]; exact srtL_spec (recLe_ord ty k) _) (fun x hx => ?_) (fun x hx => ?_)
  · rcases hl with h0 | ⟨y, hy, hle⟩
    · subst h0; simp at hx
    · obtain ⟨i, hi, rfl⟩ := List.mem_iff_getElem.1 hx
      rw [List.length_take] at hi
      rw [List.getElem_take]
      by_cases he : i = kk - 1
      · subst he
        rw [List.getElem?_eq_getElem (by omega)] at hy
        cases hy; exact hle
      · have hk : kk - 1 < (srtR ty k (l.take j)).length := (List.getElem?_eq_some_iff.1 hy).1
        have hp := List.pairwise_iff_getElem.1 (srtR_pw ty k (l.take j)) i (kk - 1) (by omega) hk (by omega)
        rw [List.getElem?_eq_getElem hk] at hy
        cases hy
        exact (recLe_ord ty k).trans _ _ _ hp hle
  · obtain ⟨i, hi, rfl⟩ := List.mem_iff_getElem.1 hx
    rw [List.length_drop] at hi
    rw [List.getElem_drop]
    exact hg (kk + i) _ (by omega) (List.getElem?_eq_getElem _)
end Go.RS
namespace Go.Proofs.Ytjbkeipagdmlpaa
open Go.RowKit Go.VB Go.VS Go.VL Go.SC Go.CK Go.ST Go.MK Go.RS
set_option linter.constructorNameAsVariable false
theorem rof_at (cs : List Col) (v : Value) (k : Nat) (r : Rc) (xa : Value) (w : World) (hS : RdC w w.heap.size v cs) (hx : RdL w w.heap.size xa r.row) (hk : k < r.row.length) :
    Calls Try.prog 20 #[.agg #[v, .int .i64 (k : Int)], .agg #[.int .i64 r.seq, xa]] w (RetB (.agg #[.bool (keyV k r).nu, .int .i64 (keyV k r).n, .string (keyV k r).s, .int .i64 r.seq]) w) := by
  obtain ⟨A2, c2, rfl, _, _, _⟩ := hS
  obtain ⟨rA, rc, n1, rfl, h1, -, -⟩ := hx.bds
  subst h1
  obtain ⟨e1, e2⟩ := rankV_in hk
  have := rof_any A2 cs.length c2 k r rA rc w hx
  rw [e1, e2] at this
  exact this
set_option maxRecDepth 100000 in
set_option maxHeartbeats 1000000 in
theorem rsorted_any (cs : List Col) (v : Value) (key : Int) (x : Value) (l : List Rc) (W : World) (hr : RdC W W.heap.size v cs) (hx : RdR W W.heap.size x l) :
    Calls Try.prog 26 #[.agg #[v, .int .i64 key], x] W (RetB (.bool (srtdB cs key l)) W) := by
  obtain ⟨A, c, n, rfl, hn, hnc, hcm⟩ := hx.bds
  have HN := Lib.hid hn; clear hn
  have HX := Lib.hid hx; have HR := Lib.hid hr
  clear hx hr
  have HV := Lib.hid (Var2.new W v (.int .i64 key) 28)
  have HB1 := Lib.hid ((Below.refl W.heap.size W).alloc (Nat.le_refl _) (.cells #[v, .int .i64 key] 28))
  have HS1 := Lib.hid (show (W.alloc (.cells #[v, .int .i64 key] 28)).heap.size = W.heap.size + 1 from by simp)
  have hVal := raval_any cs v key (.slice A n c) l (W.alloc (.cells #[v, .int .i64 key] 28)) (HR.out.step HB1.out) (HX.out.step HB1.out)
  obtain ⟨v0, v1, _, _⟩ := id HV.out
  go_enter Try.func26, Try.ntmps26
  cases hv : valR cs key l with
  | false =>
    rw [srtdB_inv hv]
    rw [hv] at hVal
    have hVal := Lib.hid hVal
    clear hv
    go_wp2_with fail
    (with_reducible refine hVal.out.mono ?_); rintro e w1 ⟨rfl, hb1⟩
    go_wp2_with fail
    go_ret
    exact RetB.mk rfl (bel_trans HB1.out hb1)
  | true =>
    rw [srtdB_val hv]
    rw [hv] at hVal
    have hVal := Lib.hid hVal
    obtain ⟨hck, hall⟩ := valR_sound hv
    obtain ⟨-, -, -, hk0, hk1⟩ := chkS_ok hck
    obtain ⟨k, rfl⟩ : ∃ k : Nat, key = k := ⟨key.toNat, by omega⟩
    have hkl : k < cs.length := by omega
    have HALL := Lib.hid hall; have HKL := Lib.hid hkl
    clear hv hck hall hk0 hk1 hkl
    rw [show keyT cs (k : Int) = (cs.getD k col0).ty from rfl, Int.toNat_natCast]
    have HBAD := fun i a b => Lib.hid (ascR_bad (ty := (cs.getD k col0).ty) (k := k) (l := l) (i := i) (a := a) (b := b))
    have HOK := Lib.hid (ascR_ok (ty := (cs.getD k col0).ty) (k := k) (l := l))
    generalize ascR (cs.getD k col0).ty k l = E at *
    generalize hTY : (cs.getD k col0).ty = TY at *
    have HTY := Lib.hid hTY; clear hTY
    go_wp2_with fail
    (with_reducible refine hVal.out.mono ?_); rintro e w1 ⟨rfl, hb1⟩
    have HBb := Lib.hid (show Below (W.heap.size + 1) (W.alloc (.cells #[v, .int .i64 (k : Int)] 28)) w1 from hb1.mono (by rw [HS1.out]; omega))
    clear hb1 hVal v0 v1
    go_wp2_with fail
    go_loopw [4, 5] (fun r i wr => ∃ j : Nat, r = .bool false ∧ i = .int .i64 ((j : Int) + 1) ∧ (j < n ∨ j = 0) ∧ Below (W.heap.size + 1) (W.alloc (.cells #[v, .int .i64 (k : Int)] 28)) wr ∧ Hid (∀ (m : Nat) (a b : Rc), m + 1 < j + 1 → l[m]? = some a → l[m + 1]? = some b → cmpRec TY k a b < 0)) (fun _ i _ => n + 1 - (intOf i).toNat)
    case atStart => exact ⟨0, rfl, rfl, .inr rfl, HBb.out, Lib.hid fun m a b h => absurd h (by omega)⟩
    case round =>
      clear HBb
      obtain ⟨j, rfl, rfl, hj, hbel, HF⟩ := hrel
      have hbW : Below W.heap.size W wr := HB1.out.trans (hbel.mono (Nat.le_succ _))
      have hsz := hbel.size
      rw [HS1.out] at hsz
      by_cases hlt : j + 1 < n
      · have hjl : j < l.length := by have := HN.out; omega
        have hjl1 : j + 1 < l.length := by have := HN.out; omega
        have hl1 : l[j]? = some l[j] := List.getElem?_eq_getElem hjl
        have hl2 : l[j + 1]? = some l[j + 1] := List.getElem?_eq_getElem hjl1
        obtain ⟨ad, rA, rn, rc, rfl, -, q0, q1, -, qr⟩ := (HX.out.below hbW).at hl1
        obtain ⟨ad', rA', rn', rc', he, -, p0, p1, -, pr⟩ := (HX.out.below hbW).at hl2
        cases he
        have HJ1 := Lib.hid hl1; have HJ2 := Lib.hid hl2; clear hl1 hl2
        generalize l[j] = R at q0 q1 qr HJ1
        generalize l[j + 1] = T at p0 p1 pr HJ2
        clear hjl hjl1
        have HL1 := (okRec_sound (HALL.out R (List.mem_of_getElem? HJ1.out))).2.2
        have HL2 := (okRec_sound (HALL.out T (List.mem_of_getElem? HJ2.out))).2.2
        have HA := fun w (h : Below wr.heap.size wr w) => Lib.hid (keyt_any cs v k w ((HR.out.step hbW).step h) HKL.out)
        rw [HTY.out] at HA
        have HB := fun w (h : Below wr.heap.size wr w) => Lib.hid (rof_at cs v k R _ w ((HR.out.step hbW).step h) ((qr.more (by omega : W.heap.size ≤ wr.heap.size)).step h) (by rw [HL1]; exact HKL.out))
        have HC := fun w (h : Below wr.heap.size wr w) => Lib.hid (rof_at cs v k T _ w ((HR.out.step hbW).step h) ((pr.more (by omega : W.heap.size ≤ wr.heap.size)).step h) (by rw [HL2]; exact HKL.out))
        have HQ := fun w => Lib.hid (rcr_any TY (keyV k R).nu (keyV k R).n (keyV k R).s R.seq (keyV k T).nu (keyV k T).n (keyV k T).s T.seq w)
        have hcr : cmpR TY ⟨(keyV k R).nu, (keyV k R).n, (keyV k R).s⟩ R.seq ⟨(keyV k T).nu, (keyV k T).n, (keyV k T).s⟩ T.seq = cmpRec TY k R T := rfl
        rw [hcr] at HQ
        have HCR := Lib.hid hcr
        clear hcr HL1 HL2
        generalize (keyV k R).nu = a1 at *
        generalize (keyV k R).n = a2 at *
        generalize (keyV k R).s = a3 at *
        generalize (keyV k T).nu = b1 at *
        generalize (keyV k T).n = b2 at *
        generalize (keyV k T).s = b3 at *
        have HV2 := fun w (h : Below wr.heap.size wr w) => Lib.hid (And.intro ((HV.out.below hbel (Nat.lt_succ_self _)).step h) (And.intro (hbel.trans (h.mono (by omega))) (Nat.zero_le 0)))
        have HQC := fun w (h : Below wr.heap.size wr w) => Lib.hid (show w.cell? (ad.add (j * 2)) = some (.int .i64 R.seq) ∧ w.cell? ⟨(ad.add (j * 2)).block, (ad.add (j * 2)).off + 1, none⟩ = some (.slice rA rn rc) ∧ w.cell? (ad.add ((j + 1) * 2)) = some (.int .i64 T.seq) ∧ w.cell? ⟨(ad.add ((j + 1) * 2)).block, (ad.add ((j + 1) * 2)).off + 1, none⟩ = some (.slice rA' rn' rc') from by
          have hlt := World.block_lt_of_cell? wr _ q0
          rw [Go.VB.block_add] at hlt
          refine ⟨?_, ?_, ?_, ?_⟩
          · rw [h.cell (by rw [Go.VB.block_add]; exact hlt)]; exact q0
          · rw [h.cell (p := ⟨(ad.add (j * 2)).block, _, none⟩) (by show (ad.add (j * 2)).block < _; rw [Go.VB.block_add]; exact hlt)]; exact q1
          · rw [h.cell (by rw [Go.VB.block_add]; exact hlt)]; exact p0
          · rw [h.cell (p := ⟨(ad.add ((j + 1) * 2)).block, _, none⟩) (by show (ad.add ((j + 1) * 2)).block < _; rw [Go.VB.block_add]; exact hlt)]; exact p1)
        generalize R.seq = qa at *
        generalize T.seq = qb at *
        have hsub : wrap64 ((j : Int) + 1 - 1) = (j : Int) := by unfold wrap64; omega
        have hlt' : (j : Int) + 1 < (n : Int) := by omega
        clear q0 q1 p0 p1 qr pr
        by_cases hc : cmpRec TY k R T < 0
        · have hd : decide (0 ≤ cmpRec TY k R T) = false := decide_eq_false (by omega)
          have HCN := Lib.hid hc
          have HN2 := Lib.hid (snoc_asc (p := fun _ a b => cmpRec TY k a b < 0) HF.out HJ1.out HJ2.out hc)
          clear hc
          generalize cmpRec TY k R T = CR at *
          go_wp2_with fail
          refine Go.Confl.wp_region_confl (by simp only [List.map_cons, List.map_nil]; rfl) (by kernel_rfl) (by kernel_rfl) ?_
          iterate 17
            first
            | (refine Go.Confl.chain_skip (Go.Confl.unwanted_is rfl rfl) ?_)
            | (first | apply Go.Confl.chain_is _ (Go.Confl.wanted_none rfl) | apply Go.Confl.chain_is _ (Go.Confl.wanted_is rfl rfl)
               · intro b w hr hb K hK
                 simp [Go.Confl.readFacts, Go.Confl.tmpsOf, Go.Confl.writerOf, Go.Confl.Is, Op.operands, Call.operands, List.findIdx?, List.findIdx?.go] at hr
                 obtain ⟨⟨v0, v1, -, -⟩, -, -⟩ := (HV2 _ hb).out
                 obtain ⟨q0, q1, p0, p1⟩ := (HQC _ hb).out
                 go_wp2_with (first
                   | (go_at_call 21; (with_reducible refine (HA _ hb).out.mono ?_); rintro e w' ⟨rfl, hb'⟩)
                   | (go_at_call 20; (with_reducible refine (HB _ hb).out.mono ?_); rintro e w' ⟨rfl, hb'⟩)
                   | (go_at_call 20; (with_reducible refine (HC _ hb).out.mono ?_); rintro e w' ⟨rfl, hb'⟩)
                   | (go_at_call 24; (with_reducible refine (HQ _).out.mono ?_); rintro e w' ⟨rfl, hb'⟩))
                 try (simp only [hr]; go_wp2)
                 exact hK _ _ rfl (by first | exact Below.refl _ _ | assumption))
            simp only [List.nil_append, List.cons_append]
          intro us w hp hb
          simp [Go.Confl.allPosts, Go.Confl.Is] at hp
          simp only [Go.Confl.putsFrom, hp, Act.put, List.setIfInBounds_toArray, List.set_cons_zero, List.set_cons_succ]
          obtain ⟨-, hb3, -⟩ := (HV2 _ hb).out
          clear hb HQ HA HB HC HQC
          go_wp2_with fail
          go_roundw
          case rel => exact ⟨j + 1, rfl, by go_num, .inl hlt, hb3, HN2⟩
          case measure => simp [intOf] <;> omega
        · have hd : decide (0 ≤ cmpRec TY k R T) = true := decide_eq_true (by omega)
          have HE := Lib.hid ((HBAD j R T).out HJ1.out HJ2.out (by omega))
          clear hc
          generalize cmpRec TY k R T = CR at *
          go_wp2_with fail
          refine Go.Confl.wp_region_confl (by simp only [List.map_cons, List.map_nil]; rfl) (by kernel_rfl) (by kernel_rfl) ?_
          iterate 17
            first
            | (refine Go.Confl.chain_skip (Go.Confl.unwanted_is rfl rfl) ?_)
            | (first | apply Go.Confl.chain_is _ (Go.Confl.wanted_none rfl) | apply Go.Confl.chain_is _ (Go.Confl.wanted_is rfl rfl)
               · intro b w hr hb K hK
                 simp [Go.Confl.readFacts, Go.Confl.tmpsOf, Go.Confl.writerOf, Go.Confl.Is, Op.operands, Call.operands, List.findIdx?, List.findIdx?.go] at hr
                 obtain ⟨⟨v0, v1, -, -⟩, -, -⟩ := (HV2 _ hb).out
                 obtain ⟨q0, q1, p0, p1⟩ := (HQC _ hb).out
                 go_wp2_with (first
                   | (go_at_call 21; (with_reducible refine (HA _ hb).out.mono ?_); rintro e w' ⟨rfl, hb'⟩)
                   | (go_at_call 20; (with_reducible refine (HB _ hb).out.mono ?_); rintro e w' ⟨rfl, hb'⟩)
                   | (go_at_call 20; (with_reducible refine (HC _ hb).out.mono ?_); rintro e w' ⟨rfl, hb'⟩)
                   | (go_at_call 24; (with_reducible refine (HQ _).out.mono ?_); rintro e w' ⟨rfl, hb'⟩))
                 try (simp only [hr]; go_wp2)
                 exact hK _ _ rfl (by first | exact Below.refl _ _ | assumption))
            simp only [List.nil_append, List.cons_append]
          intro us w hp hb
          simp [Go.Confl.allPosts, Go.Confl.Is] at hp
          simp only [Go.Confl.putsFrom, hp, Act.put, List.setIfInBounds_toArray, List.set_cons_zero, List.set_cons_succ]
          obtain ⟨-, hb3, -⟩ := (HV2 _ hb).out
          clear hb HQ HA HB HC HQC HF HBAD HOK
          go_wp2_with fail
          go_ret
          exact RetB.mk (by first | (rw [HE.out]; rfl) | rw [HE.out]) (HB1.out.trans (hb3.mono (Nat.le_succ _)))
      · have HE := Lib.hid (HOK.out (fun m a b h1 h2 => HF.out m a b (by have := (List.getElem?_eq_some_iff.1 h2).1; have := HN.out; omega) h1 h2))
        clear HF HBAD HOK
        have hd : decide ((j : Int) + 1 < (n : Int)) = false := decide_eq_false (by omega)
        go_wp2
        go_ret
        exact RetB.mk (by first | (rw [HE.out]; rfl) | rw [HE.out]) hbW
set_option maxRecDepth 100000 in
set_option maxHeartbeats 2000000 in
theorem rsort_any (cs : List Col) (v : Value) (key : Int) (x : Value) (l : List Rc) (W : World) (hr : RdC W W.heap.size v cs) (hx : RdR W W.heap.size x l) (hz : l.length * 32 ≤ 140737488351232) :
    Calls Try.prog 29 #[.agg #[v, .int .i64 key], x] W (RetRs 41 (sortR cs key l) W) := by
  obtain ⟨A, c, n, rfl, hn, hnc, hcm⟩ := hx.bds
  have HN := Lib.hid hn; have HZ := Lib.hid hz; clear hn hz
  have hV := Var2.new W v (.int .i64 key) 28
  have hB := (Below.refl W.heap.size W).alloc (Nat.le_refl _) (.cells #[v, .int .i64 key] 28)
  have hs1 : (W.alloc (.cells #[v, .int .i64 key] 28)).heap.size = W.heap.size + 1 := by simp
  have HX0 := Lib.hid (show ∃ X, W.alloc (.cells #[v, .int .i64 key] 28) = X from ⟨_, rfl⟩)
  obtain ⟨X, hX⟩ := HX0.out
  rw [hX] at hB hV hs1
  have hVal := raval_any cs v key (.slice A n c) l X (hr.step hB) (hx.step hB)
  have HX' := Lib.hid hX; have HS1 := Lib.hid hs1; have HB := Lib.hid hB
  have HX := Lib.hid hx; have HR := Lib.hid hr
  obtain ⟨v0, v1, _, _⟩ := id hV
  cases hv : valR cs key l with
  | false =>
    rw [sortR_inv hv]
    rw [hv] at hVal
    have hVal := Lib.hid hVal
    clear hv hX hs1 hB hr hx
    go_enter Try.func29, Try.ntmps29
    go_wp2_with fail
    rw [HX'.out]
    go_wp2_with fail
    (with_reducible refine hVal.out.mono ?_); rintro e w1 ⟨rfl, hb1⟩
    go_wp2_with fail
    go_ret
    exact RetRs.mk rfl (OwnK.nil _ _ _ _) (DeepR.nil _ _) (bel_trans HB.out hb1)
  | true =>
    rw [sortR_val hv]
    rw [hv] at hVal
    have hVal := Lib.hid hVal
    obtain ⟨hck, hall⟩ := valR_sound hv
    obtain ⟨-, -, -, hk0, hk1⟩ := chkS_ok hck
    obtain ⟨k, rfl⟩ : ∃ k : Nat, key = k := ⟨key.toNat, by omega⟩
    have hkl : k < cs.length := by omega
    have HALL := Lib.hid (show ∀ r ∈ l, r.row.length = cs.length from fun r hr => (okRec_sound (hall r hr)).2.2)
    have HKL := Lib.hid hkl; have HV := Lib.hid hV
    clear hv hck hall hk0 hk1 hkl hV hB hs1 hX hr hx
    rw [show keyT cs (k : Int) = (cs.getD k col0).ty from rfl, Int.toNat_natCast]
    generalize hTY : (cs.getD k col0).ty = TY at *
    have HTY := Lib.hid hTY; clear hTY
    go_enter Try.func29, Try.ntmps29
    go_wp2_with fail
    rw [HX'.out]
    go_wp2_with fail
    (with_reducible refine hVal.out.mono ?_); rintro e w1 ⟨rfl, hb1⟩
    have HBb := Lib.hid (show Below (W.heap.size + 1) X w1 from hb1.mono (by rw [HS1.out]; omega))
    clear hb1 hVal v0 v1
    go_wp2_with fail
    go_loopw [5, 7, 8, 9, 16] (fun ov _ _ _ iv wr => ∃ (j : Nat) (ps : List Rs), iv = .int .i64 j ∧ j ≤ n ∧ OwnK recL 41 wr (W.heap.size + 1) ov ps ∧ Hid (DeepR W W.heap.size ps (srtR TY k (l.take j))) ∧ Below (W.heap.size + 1) X wr) (fun _ _ _ _ iv _ => n - (intOf iv).toNat)
    case atStart => exact ⟨0, [], rfl, Nat.zero_le _, OwnK.nil _ _ _ _, Lib.hid (by rw [List.take_zero]; exact DeepR.nil _ _), HBb.out⟩
    case round =>
      clear HBb
      obtain ⟨j, ps, rfl, hj, hown, HD, hbel⟩ := hrel
      have hbW : Below W.heap.size W wr := HB.out.trans (hbel.mono (Nat.le_succ _))
      have hsz := hbel.size
      rw [HS1.out] at hsz
      by_cases hlt : j < n
      case neg =>
        have HF := Lib.hid (show l.take j = l from List.take_of_length_le (by have := HN.out; omega))
        have hd := (HD.out.below hbW).more hbW.size
        rw [HF.out] at hd
        have HDD := Lib.hid hd
        clear hd
        go_wp2
        go_ret
        exact RetRs.mk rfl (hown.lower (Nat.le_succ _)) HDD.out hbW
      have hjl : j < l.length := by have := HN.out; omega
      have hlj : l[j]? = some l[j] := List.getElem?_eq_getElem hjl
      obtain ⟨ad, rA2, rn2, rc2, rfl, hab, q0, q1, -, qr⟩ := HX.out.at hlj
      have q0' : wr.cell? (ad.add (j * 2)) = some (.int .i64 l[j].seq) := by rw [hbW.cell (by rw [Go.VB.block_add]; exact hab)]; exact q0
      have q1' : wr.cell? ⟨(ad.add (j * 2)).block, (ad.add (j * 2)).off + 1, none⟩ = some (.slice rA2 rn2 rc2) := by rw [hbW.cell (p := ⟨(ad.add (j * 2)).block, _, none⟩) (by show (ad.add (j * 2)).block < _; rw [Go.VB.block_add]; exact hab)]; exact q1
      have hlr := HALL.out _ (List.mem_of_getElem? hlj)
      have HJ := Lib.hid hlj; clear hlj
      generalize l[j] = R at q0' q1' qr hlr HJ q0
      clear hjl q0 q1
      obtain ⟨q, row⟩ := R
      simp only at q0' q1' qr hlr
      have HQW := Lib.hid qr
      have HQR := Lib.hid (qr.below hbW)
      have HLR := Lib.hid hlr
      obtain ⟨O, hO⟩ : ∃ O, O = srtR TY k (l.take j) := ⟨_, rfl⟩
      rw [← hO] at HD
      have HO := Lib.hid hO; clear hO qr hlr
      have hlen : ps.length = O.length := HD.out.1
      have hOl : O.length ≤ 4398046510976 := by rw [HO.out, srtR_len, List.length_take]; have := HZ.out; omega
      have HOM := Lib.hid (show ∀ y ∈ O, y.row.length = cs.length from fun y hy => HALL.out y (List.mem_of_mem_take (srtR_mem (by rw [← HO.out]; exact hy))))
      have HOL := Lib.hid hOl; have HLEN := Lib.hid hlen
      clear hOl hlen
      have hd0 : decide ((j : Int) < (n : Int)) = true := decide_eq_true (by omega)
      have hd0' : decide (j < n) = true := decide_eq_true hlt
      have hb2 := (Below.refl wr.heap.size wr).alloc (Nat.le_refl _) (.cells #[.int .i64 q, .slice rA2 rn2 rc2] 41)
      have hV2 := Var2.new wr (.int .i64 q) (.slice rA2 rn2 rc2) 41
      have hs2 : (wr.alloc (.cells #[.int .i64 q, .slice rA2 rn2 rc2] 41)).heap.size = wr.heap.size + 1 := by simp
      have HY0 := Lib.hid (show ∃ Y, wr.alloc (.cells #[.int .i64 q, .slice rA2 rn2 rc2] 41) = Y from ⟨_, rfl⟩)
      obtain ⟨Y, hY⟩ := HY0.out
      rw [hY] at hb2 hV2 hs2
      have HY := Lib.hid hY; have HBY := Lib.hid (hbel.trans (hb2.mono (by omega)))
      have HV3 := Lib.hid (show ∀ w, Below Y.heap.size Y w → Var2 w W.heap.size v (.int .i64 (k : Int)) ∧ Var2 w wr.heap.size (.int .i64 q) (.slice rA2 rn2 rc2) ∧ Below (W.heap.size + 1) X w ∧ RdL w w.heap.size (.slice rA2 rn2 rc2) row ∧ RdC w w.heap.size v cs from fun w h =>
        have h3 := (hbel.trans (hb2.mono (by omega))).trans (h.mono (by omega))
        ⟨HV.out.below h3 (by omega), hV2.step h, h3, (((HQR.out.more (by omega)).step hb2).step h), HR.out.step (HB.out.trans (h3.mono (Nat.le_succ _)))⟩)
      have hZ : wr.heap.size + 1 = Y.heap.size := hs2.symm
      have HWY := Lib.hid (show W.heap.size + 1 ≤ Y.heap.size by omega)
      have HOW := Lib.hid (hown.below hb2)
      have HBW := Lib.hid hbW
      clear HY0 hb2 hV2 hs2 hY hown hbW hbel hZ
      have HPS := Lib.hid (show ps.length ≤ 4398046510976 by have := HOL.out; have := HLEN.out; omega)
      obtain ⟨WO, rfl⟩ : ∃ WO, WO = wr := ⟨_, rfl⟩
      rcases HOW.out.forms with ⟨rfl, hps⟩ | ⟨g, cc, rfl, hrow⟩
      · subst hps
        have hOn : O = [] := List.eq_nil_of_length_eq_zero HLEN.out.symm
        have HOn := Lib.hid hOn; clear hOn
        go_wp2_with fail
        rw [HY.out]
        go_loopw [8] (fun kv wi => kv = .int .i64 0 ∧ wi = Y) (fun _ _ => 0)
        case atStart => exact ⟨rfl, rfl⟩
        case round =>
          obtain ⟨rfl, rfl⟩ := hrel
          have HW0 := Lib.hid (HV3.out _ (Below.refl _ _))
          go_wp2_with fail
          refine Go.Confl.wp_region_confl (by simp only [List.map_cons, List.map_nil]; rfl) (by kernel_rfl) (by kernel_rfl) ?_
          iterate 18
            first
            | (refine Go.Confl.chain_skip (Go.Confl.unwanted_is rfl rfl) ?_)
            | (first | apply Go.Confl.chain_is _ (Go.Confl.wanted_none rfl) | apply Go.Confl.chain_is _ (Go.Confl.wanted_is rfl rfl)
               · intro b w hr hb K hK
                 simp [Go.Confl.readFacts, Go.Confl.tmpsOf, Go.Confl.writerOf, Go.Confl.Is, Op.operands, List.findIdx?, List.findIdx?.go] at hr
                 go_wp2_with fail
                 try (simp only [hr]; go_wp2)
                 exact hK _ _ rfl (by first | exact Below.refl _ _ | assumption))
            simp only [List.nil_append, List.cons_append]
          intro us w hp hb
          simp [Go.Confl.allPosts, Go.Confl.Is] at hp
          simp only [Go.Confl.putsFrom, hp, Act.put, List.setIfInBounds_toArray, List.set_cons_zero, List.set_cons_succ]
          have HRA := Lib.hid (RdK.nil recL w w.heap.size)
          have HRB := Lib.hid (show ∀ w', Below w.heap.size w w' → RdK recL w' w.heap.size (.slice none 0 0) [] from fun w' h => RdK.nil recL _ _)
          have HNW := Lib.hid (show (([] : List Rc) ++ [(⟨q, row⟩ : Rc)]) ++ [] = srtR TY k (l.take (j + 1)) from by
            have h := srtR_ins (kk := 0) HJ.out HO.out (fun i x _ h => by rw [HOn.out] at h; simp at h) (.inl rfl)
            rw [← h, HOn.out]; rfl)
          have HDW := Lib.hid (show DeepR W W.heap.size (([] ++ [(⟨q, ⟨rA2, rn2, rc2⟩⟩ : Rs)]) ++ []) (srtR TY k (l.take (j + 1))) from by
            have h := ((DeepR.nil W W.heap.size).app (DeepR.one (p := ⟨q, ⟨rA2, rn2, rc2⟩⟩) (r := ⟨q, row⟩) rfl HQW.out)).app (DeepR.nil W W.heap.size)
            rw [← HNW.out]; exact h)
          have HSW := Lib.hid (show W.heap.size + 1 ≤ w.heap.size by have := HWY.out; have := hb.size; omega)
          have HLA := Lib.hid (show ([] : List Rs).length ≤ 4398046510976 by have := HPS.out; simp only [List.length_nil] at *; omega)
          have HLB := Lib.hid (show ([] : List Rs).length + ([] : List Rs).length ≤ 4398046510976 by have := HPS.out; simp only [List.length_nil] at *; omega)
          have HT1 := Lib.hid (show ([] : List Rs).length + ([] : List Rs).length ≤ maxLen by have := HLA.out; unfold maxLen; simp only [List.length_nil] at *; omega)
          have HT2 := Lib.hid (show (([] : List Rs).length + ([] : List Rs).length) * 32 ≤ 140737488355328 by have := HLA.out; simp only [List.length_nil] at *; omega)
          have HT3 := Lib.hid (show ([] ++ [] : List Rs).length + [(⟨q, ⟨rA2, rn2, rc2⟩⟩ : Rs)].length ≤ maxLen by have := HLA.out; unfold maxLen; simp only [List.length_append, List.length_cons, List.length_nil] at *; omega)
          have HT4 := Lib.hid (show (([] ++ [] : List Rs).length + [(⟨q, ⟨rA2, rn2, rc2⟩⟩ : Rs)].length) * 32 ≤ 140737488355328 by have := HLA.out; simp only [List.length_append, List.length_cons, List.length_nil] at *; omega)
          have HT5 := Lib.hid (show (([] ++ []) ++ [(⟨q, ⟨rA2, rn2, rc2⟩⟩ : Rs)]).length + ([] : List Rs).length ≤ maxLen by have := HLB.out; unfold maxLen; simp only [List.length_append, List.length_cons, List.length_nil] at *; omega)
          have HT6 := Lib.hid (show ((([] ++ []) ++ [(⟨q, ⟨rA2, rn2, rc2⟩⟩ : Rs)]).length + ([] : List Rs).length) * 32 ≤ 140737488355328 by have := HLB.out; simp only [List.length_append, List.length_cons, List.length_nil] at *; omega)
          have HBe := Lib.hid hb
          clear hb
          go_wp2_with (first
            | (at_builtin; refine wpl_appK (L := recL) rfl _ _ 24 rfl w.heap.size 41 32 Try.underlying24 Try.infRec (.slice none 0 0) [] rfl (OwnK.nil _ _ _ _) w.heap.size _ ([]) rfl HRA.out HT1.out HT2.out (Nat.le_refl _) ?_
               intro v1 w1 ho1 hb1 _
               obtain ⟨sA, sn, sc, rfl⟩ := ownK_sl ho1
               obtain ⟨-, ⟨y0, y1, -, -⟩, -, -, -⟩ := HV3.out w1 (bel_trans HBe.out hb1)
               have HO1 := Lib.hid (ho1.alloc (.cells #[.int .i64 q, .slice rA2 rn2 rc2] 41))
               have HX1 := Lib.hid (RdK.lit (L := recL) w1 [(⟨q, ⟨rA2, rn2, rc2⟩⟩ : Rs)] 1 41 (Nat.le_refl 1) (by decide))
               have HB1 := Lib.hid (hb1.alloc hb1.size (.cells #[.int .i64 q, .slice rA2 rn2 rc2] 41))
               clear ho1)
            | (at_builtin; refine wpl_appK (L := recL) rfl _ _ 24 rfl w.heap.size 41 32 Try.underlying24 Try.infRec (.slice sA sn sc) ([] ++ []) rfl HO1.out _ _ [(⟨q, ⟨rA2, rn2, rc2⟩⟩ : Rs)] rfl HX1.out HT3.out HT4.out HB1.out.size ?_
               intro v2 w2 ho2 hb2 _
               have HB2 := Lib.hid (HB1.out.trans hb2)
               have HX2 := Lib.hid (HRB.out w2 HB2.out)
               have HO2 := Lib.hid ho2
               clear ho2 hb2 y0 y1)
            | (at_builtin; refine wpl_appK (L := recL) rfl _ _ 24 rfl w.heap.size 41 32 Try.underlying24 Try.infRec v2 (([] ++ []) ++ [(⟨q, ⟨rA2, rn2, rc2⟩⟩ : Rs)]) rfl HO2.out w.heap.size _ ([]) rfl HX2.out HT5.out HT6.out HB2.out.size ?_
               intro v3 w3 ho3 hb3 _))
          have HB3 := Lib.hid ((HV3.out w3 (bel_trans HBe.out (HB2.out.trans hb3))).2.2.1)
          have ho4 := OwnK.lower ho3 HSW.out
          rw [List.nil_append] at ho4
          have HO3 := Lib.hid ho4
          clear ho3 hb3 ho4
          go_roundw
          all_goals first
            | (simp [intOf]; omega)
            | exact ⟨j + 1, _, by go_num, hlt, HO3.out, HDW, HB3.out⟩
            | exact ⟨_, _, _, _, _, ⟨j + 1, _, by go_num, hlt, HO3.out, HDW, HB3.out⟩, rfl, rfl, rfl, rfl, rfl⟩
      · have HROW := Lib.hid hrow; clear hrow
        have hpl : ps.length ≤ cc ∧ cc ≤ 9223372036854775807 := by
          obtain ⟨A', c', n', he, h1, h2, h3⟩ := (OwnK.read HROW.out).bds
          cases he
          exact ⟨by omega, h3⟩
        obtain ⟨hpl1, hpl2⟩ := hpl
        obtain ⟨m, hm⟩ : ∃ m, ps.length = m := ⟨_, rfl⟩
        rw [hm] at hpl1
        have HM := Lib.hid hm
        rw [hm]
        clear hm
        go_wp2_with fail
        rw [HY.out]
        go_loopw [8] (fun kv wi => ∃ kk : Nat, kv = .int .i64 kk ∧ kk ≤ m ∧ Hid (∀ (i : Nat) (x : Rc), kk ≤ i → O[i]? = some x → recLe TY k x ⟨q, row⟩ = false) ∧ Below Y.heap.size Y wi) (fun kv _ => (intOf kv).toNat)
        case atStart => exact ⟨m, rfl, Nat.le_refl _, Lib.hid (fun i x h1 h2 => absurd (List.getElem?_eq_some_iff.1 h2).1 (by have := HM.out; have := HLEN.out; omega)), Below.refl _ _⟩
        case round =>
          obtain ⟨kk, rfl, hkm, HG, hbi⟩ := hrel
          have HRDY := Lib.hid (show RdR Y Y.heap.size (.slice (some ⟨g, 0, none⟩) m cc) O from ⟨ps, by have h := OwnK.read HROW.out; rw [HM.out] at h; exact h, (HD.out.below (HB.out.trans (HBY.out.mono (Nat.le_succ _)))).more (by have := HWY.out; omega)⟩)
          have HRK := Lib.hid (show RdK recL Y Y.heap.size (.slice (some ⟨g, 0, none⟩) m cc) ps from by have h := OwnK.read HROW.out; rw [HM.out] at h; exact h)
          have HCUT := Lib.hid (show ∀ w, Below Y.heap.size Y w → RdK recL w w.heap.size (.slice (some ⟨g, 0, none⟩) kk cc) (ps.take kk) ∧ RdK recL w w.heap.size (.slice (if cc = kk then some ⟨g, 0, none⟩ else some ⟨g, kk * 2, none⟩) (m - kk) (cc - kk)) (ps.drop kk) from fun w h => by
            have h0 := HRK.out.step h
            refine ⟨?_, ?_⟩
            · have h1 := h0.head (m := ps.take kk) (by rw [List.length_take]; congr 1; have := HM.out; omega) (by rw [List.length_take]; omega)
              rw [show (ps.take kk).length = kk by rw [List.length_take]; have := HM.out; omega] at h1
              exact h1
            · have h1 := h0.cutC (i := kk) (by have := HM.out; omega)
              rw [addr0K] at h1
              exact h1)
          have hkc : kk ≤ cc := by omega
          by_cases h0 : 0 < kk
          case neg =>
            have hd2 : decide ((0 : Int) < (kk : Int)) = false := decide_eq_false (by omega)
            have hd2' : decide (0 < kk) = false := decide_eq_false h0
            have HK0 := Lib.hid (show kk = 0 by omega)
            go_wp2_with fail
            refine Go.Confl.wp_region_confl (by simp only [List.map_cons, List.map_nil]; rfl) (by kernel_rfl) (by kernel_rfl) ?_
            iterate 18
              first
              | (refine Go.Confl.chain_skip (Go.Confl.unwanted_is rfl rfl) ?_)
              | (first | apply Go.Confl.chain_is _ (Go.Confl.wanted_none rfl) | apply Go.Confl.chain_is _ (Go.Confl.wanted_is rfl rfl)
                 · intro b w hr hb K hK
                   simp [Go.Confl.readFacts, Go.Confl.tmpsOf, Go.Confl.writerOf, Go.Confl.Is, Op.operands, List.findIdx?, List.findIdx?.go] at hr
                   go_wp2_with fail
                   try (simp only [hr]; go_wp2)
                   exact hK _ _ rfl (by first | exact Below.refl _ _ | assumption))
              simp only [List.nil_append, List.cons_append]
            intro us w hp hb
            simp [Go.Confl.allPosts, Go.Confl.Is] at hp
            simp only [Go.Confl.putsFrom, hp, Act.put, List.setIfInBounds_toArray, List.set_cons_zero, List.set_cons_succ]
            have hb : Below Y.heap.size Y w := bel_trans hbi hb
            have HRA := Lib.hid (HCUT.out w hb).1
            have HRB := Lib.hid (show ∀ w', Below w.heap.size w w' → RdK recL w' w.heap.size (.slice (if cc = kk then some ⟨g, 0, none⟩ else some ⟨g, kk * 2, none⟩) (m - kk) (cc - kk)) (ps.drop kk) from fun w' h => (HCUT.out w hb).2.below h)
            have HNW := Lib.hid (show (O.take kk ++ [(⟨q, row⟩ : Rc)]) ++ O.drop kk = srtR TY k (l.take (j + 1)) from by
              have h := srtR_ins (kk := kk) HJ.out HO.out HG.out (.inl HK0.out)
              rw [← h, List.append_assoc]; rfl)
            have HDW := Lib.hid (show DeepR W W.heap.size ((ps.take kk ++ [(⟨q, ⟨rA2, rn2, rc2⟩⟩ : Rs)]) ++ ps.drop kk) (srtR TY k (l.take (j + 1))) from by
              have h := ((HD.out.take kk).app (DeepR.one (p := ⟨q, ⟨rA2, rn2, rc2⟩⟩) (r := ⟨q, row⟩) rfl HQW.out)).app (HD.out.drop kk)
              rw [← HNW.out]; exact h)
            have HSW := Lib.hid (show W.heap.size + 1 ≤ w.heap.size by have := HWY.out; have := hb.size; omega)
            have HLA := Lib.hid (show (ps.take kk : List Rs).length ≤ 4398046510976 by have := HPS.out; simp only [List.length_take] at *; omega)
            have HLB := Lib.hid (show (ps.take kk : List Rs).length + (ps.drop kk : List Rs).length ≤ 4398046510976 by have := HPS.out; simp only [List.length_take, List.length_drop] at *; omega)
            have HT1 := Lib.hid (show ([] : List Rs).length + (ps.take kk : List Rs).length ≤ maxLen by have := HLA.out; unfold maxLen; simp only [List.length_nil] at *; omega)
            have HT2 := Lib.hid (show (([] : List Rs).length + (ps.take kk : List Rs).length) * 32 ≤ 140737488355328 by have := HLA.out; simp only [List.length_nil] at *; omega)
            have HT3 := Lib.hid (show ([] ++ ps.take kk : List Rs).length + [(⟨q, ⟨rA2, rn2, rc2⟩⟩ : Rs)].length ≤ maxLen by have := HLA.out; unfold maxLen; simp only [List.length_append, List.length_cons, List.length_nil] at *; omega)
            have HT4 := Lib.hid (show (([] ++ ps.take kk : List Rs).length + [(⟨q, ⟨rA2, rn2, rc2⟩⟩ : Rs)].length) * 32 ≤ 140737488355328 by have := HLA.out; simp only [List.length_append, List.length_cons, List.length_nil] at *; omega)
            have HT5 := Lib.hid (show (([] ++ ps.take kk) ++ [(⟨q, ⟨rA2, rn2, rc2⟩⟩ : Rs)]).length + (ps.drop kk : List Rs).length ≤ maxLen by have := HLB.out; unfold maxLen; simp only [List.length_append, List.length_cons, List.length_nil] at *; omega)
            have HT6 := Lib.hid (show ((([] ++ ps.take kk) ++ [(⟨q, ⟨rA2, rn2, rc2⟩⟩ : Rs)]).length + (ps.drop kk : List Rs).length) * 32 ≤ 140737488355328 by have := HLB.out; simp only [List.length_append, List.length_cons, List.length_nil] at *; omega)
            have HBe := Lib.hid hb
            clear hb
            go_wp2_with (first
              | (at_builtin; refine wpl_appK (L := recL) rfl _ _ 24 rfl w.heap.size 41 32 Try.underlying24 Try.infRec (.slice none 0 0) [] rfl (OwnK.nil _ _ _ _) w.heap.size _ (ps.take kk) rfl HRA.out HT1.out HT2.out (Nat.le_refl _) ?_
                 intro v1 w1 ho1 hb1 _
                 obtain ⟨sA, sn, sc, rfl⟩ := ownK_sl ho1
                 obtain ⟨-, ⟨y0, y1, -, -⟩, -, -, -⟩ := HV3.out w1 (bel_trans HBe.out hb1)
                 have HO1 := Lib.hid (ho1.alloc (.cells #[.int .i64 q, .slice rA2 rn2 rc2] 41))
                 have HX1 := Lib.hid (RdK.lit (L := recL) w1 [(⟨q, ⟨rA2, rn2, rc2⟩⟩ : Rs)] 1 41 (Nat.le_refl 1) (by decide))
                 have HB1 := Lib.hid (hb1.alloc hb1.size (.cells #[.int .i64 q, .slice rA2 rn2 rc2] 41))
                 clear ho1)
              | (at_builtin; refine wpl_appK (L := recL) rfl _ _ 24 rfl w.heap.size 41 32 Try.underlying24 Try.infRec (.slice sA sn sc) ([] ++ ps.take kk) rfl HO1.out _ _ [(⟨q, ⟨rA2, rn2, rc2⟩⟩ : Rs)] rfl HX1.out HT3.out HT4.out HB1.out.size ?_
                 intro v2 w2 ho2 hb2 _
                 have HB2 := Lib.hid (HB1.out.trans hb2)
                 have HX2 := Lib.hid (HRB.out w2 HB2.out)
                 have HO2 := Lib.hid ho2
                 clear ho2 hb2 y0 y1)
              | (at_builtin; refine wpl_appK (L := recL) rfl _ _ 24 rfl w.heap.size 41 32 Try.underlying24 Try.infRec v2 (([] ++ ps.take kk) ++ [(⟨q, ⟨rA2, rn2, rc2⟩⟩ : Rs)]) rfl HO2.out w.heap.size _ (ps.drop kk) rfl HX2.out HT5.out HT6.out HB2.out.size ?_
                 intro v3 w3 ho3 hb3 _))
            have HB3 := Lib.hid ((HV3.out w3 (bel_trans HBe.out (HB2.out.trans hb3))).2.2.1)
            have ho4 := OwnK.lower ho3 HSW.out
            rw [List.nil_append] at ho4
            have HO3 := Lib.hid ho4
            clear ho3 hb3 ho4
            go_roundw
            all_goals first
              | (simp [intOf]; omega)
              | exact ⟨j + 1, _, by go_num, hlt, HO3.out, HDW, HB3.out⟩
              | exact ⟨_, _, _, _, _, ⟨j + 1, _, by go_num, hlt, HO3.out, HDW, HB3.out⟩, rfl, rfl, rfl, rfl, rfl⟩
          obtain ⟨p, hp⟩ : ∃ p, p = kk - 1 := ⟨_, rfl⟩
          have hpO : p < O.length := by have := HM.out; have := HLEN.out; omega
          have hpy : O[p]? = some O[p] := List.getElem?_eq_getElem hpO
          obtain ⟨ad3, yA, yn, yc, he3, hab3, p0, p1, -, pr⟩ := HRDY.out.at hpy
          cases he3
          rw [addr0K] at p0 p1
          have hly := HOM.out _ (List.mem_of_getElem? hpy)
          have HPY := Lib.hid hpy
          generalize O[p] = y at p0 p1 pr hly HPY
          have HA := fun w (h : Below wr.heap.size wr w) => Lib.hid (keyt_any cs v k w (HV3.out w (bel_trans hbi h)).2.2.2.2 HKL.out)
          rw [HTY.out] at HA
          have HBr := fun w (h : Below wr.heap.size wr w) => Lib.hid (rof_at cs v k ⟨q, row⟩ _ w (HV3.out w (bel_trans hbi h)).2.2.2.2 (HV3.out w (bel_trans hbi h)).2.2.2.1 (by show k < row.length; rw [HLR.out]; exact HKL.out))
          have HCy := fun w (h : Below wr.heap.size wr w) => Lib.hid (rof_at cs v k y _ w (HV3.out w (bel_trans hbi h)).2.2.2.2 (pr.step (bel_trans hbi h)) (by rw [hly]; exact HKL.out))
          have HQ := fun w => Lib.hid (rcr_any TY (keyV k ⟨q, row⟩).nu (keyV k ⟨q, row⟩).n (keyV k ⟨q, row⟩).s q (keyV k y).nu (keyV k y).n (keyV k y).s y.seq w)
          have hcr : cmpR TY ⟨(keyV k ⟨q, row⟩).nu, (keyV k ⟨q, row⟩).n, (keyV k ⟨q, row⟩).s⟩ q ⟨(keyV k y).nu, (keyV k y).n, (keyV k y).s⟩ y.seq = cmpRec TY k ⟨q, row⟩ y := rfl
          rw [hcr] at HQ
          have HFC := Lib.hid (show ∀ w, Below wr.heap.size wr w → w.cell? ⟨g, p * 2, none⟩ = some (.int .i64 y.seq) ∧ w.cell? ⟨g, p * 2 + 1, none⟩ = some (.slice yA yn yc) from fun w h => by
            have h2 := bel_trans hbi h
            exact ⟨by rw [h2.cell (p := ⟨g, p * 2, none⟩) hab3]; exact p0, by rw [h2.cell (p := ⟨g, p * 2 + 1, none⟩) hab3]; exact p1⟩)
          simp only at HBr
          clear hcr hly p0 p1 pr hpy
          generalize (keyV k ⟨q, row⟩).nu = a1 at *
          generalize (keyV k ⟨q, row⟩).n = a2 at *
          generalize (keyV k ⟨q, row⟩).s = a3 at *
          generalize (keyV k y).nu = b1 at *
          generalize (keyV k y).n = b2 at *
          generalize (keyV k y).s = b3 at *
          obtain ⟨qy, hqy⟩ : ∃ qy, y.seq = qy := ⟨_, rfl⟩
          rw [hqy] at HCy HQ HFC
          obtain ⟨CR, hCR⟩ : ∃ CR, cmpRec TY k ⟨q, row⟩ y = CR := ⟨_, rfl⟩
          rw [hCR] at HQ
          have HCR := Lib.hid hCR
          clear hqy hCR
          have hd2 : decide ((0 : Int) < (kk : Int)) = true := decide_eq_true (by omega)
          have hd2' : decide (0 < kk) = true := decide_eq_true h0
          have hsub : (kk : Int) - 1 = (p : Int) := by omega
          have hpm : (p : Int) < (m : Int) := by omega
          have HPK := Lib.hid (show kk = p + 1 by omega)
          clear hp hpO
          by_cases hc : CR < 0
          · have hd : decide (CR < 0) = true := decide_eq_true hc
            have HG2 := Lib.hid (show ∀ (i : Nat) (x : Rc), p ≤ i → O[i]? = some x → recLe TY k x ⟨q, row⟩ = false from fun i x h1 h2 => by
              by_cases he : i = p
              · subst he; rw [HPY.out] at h2; cases h2; exact recLe_neg.2 (by rw [HCR.out]; exact hc)
              · exact HG.out i x (by have := HPK.out; omega) h2)
            have HPM := Lib.hid (show p ≤ m by omega)
            have HMS := Lib.hid (show p < kk by have := HPK.out; omega)
            clear hc
            go_wp2_with fail
            refine Go.Confl.wp_region_confl (by simp only [List.map_cons, List.map_nil]; rfl) (by kernel_rfl) (by kernel_rfl) ?_
            iterate 18
              first
              | (refine Go.Confl.chain_skip (Go.Confl.unwanted_is rfl rfl) ?_)
              | (first | apply Go.Confl.chain_is _ (Go.Confl.wanted_none rfl) | apply Go.Confl.chain_is _ (Go.Confl.wanted_is rfl rfl)
                 · intro b w hr hb K hK
                   simp [Go.Confl.readFacts, Go.Confl.tmpsOf, Go.Confl.writerOf, Go.Confl.Is, Op.operands, Call.operands, List.findIdx?, List.findIdx?.go] at hr
                   obtain ⟨⟨v0, v1, -, -⟩, ⟨m0, m1, -, -⟩, -⟩ := HV3.out _ (bel_trans hbi hb)
                   obtain ⟨q0, q1⟩ := HFC.out _ hb
                   go_wp2_with (first
                     | (go_at_call 21; (with_reducible refine (HA _ hb).out.mono ?_); rintro e w' ⟨rfl, hb'⟩)
                     | (go_at_call 20; (with_reducible refine (HBr _ hb).out.mono ?_); rintro e w' ⟨rfl, hb'⟩)
                     | (go_at_call 20; (with_reducible refine (HCy _ hb).out.mono ?_); rintro e w' ⟨rfl, hb'⟩)
                     | (go_at_call 24; (with_reducible refine (HQ _).out.mono ?_); rintro e w' ⟨rfl, hb'⟩))
                   try (simp only [hr]; go_wp2)
                   exact hK _ _ rfl (by first | exact Below.refl _ _ | assumption))
              simp only [List.nil_append, List.cons_append]
            intro us w hp hb
            simp [Go.Confl.allPosts, Go.Confl.Is] at hp
            simp only [Go.Confl.putsFrom, hp, Act.put, List.setIfInBounds_toArray, List.set_cons_zero, List.set_cons_succ]
            have HBN := Lib.hid (bel_trans hbi hb)
            clear hb HA HBr HCy HQ HFC
            go_wp2_with fail
            go_roundw
            all_goals first
              | exact ⟨p, rfl, HPM.out, HG2, HBN.out⟩
              | (have := HMS.out; simp [intOf]; omega)
              | (have := HMS.out; simp only [intOf]; omega)
          · have hd : decide (CR < 0) = false := decide_eq_false hc
            have HHL := Lib.hid (show ∃ z, O[kk - 1]? = some z ∧ recLe TY k z ⟨q, row⟩ = true from ⟨y, by rw [show kk - 1 = p by have := HPK.out; omega]; exact HPY.out, by
              cases h : recLe TY k y ⟨q, row⟩ with
              | true => rfl
              | false => exact absurd (recLe_neg.1 h) (by rw [HCR.out]; exact hc)⟩)
            clear hc
            go_wp2_with fail
            refine Go.Confl.wp_region_confl (by simp only [List.map_cons, List.map_nil]; rfl) (by kernel_rfl) (by kernel_rfl) ?_
            iterate 18
              first
              | (refine Go.Confl.chain_skip (Go.Confl.unwanted_is rfl rfl) ?_)
              | (first | apply Go.Confl.chain_is _ (Go.Confl.wanted_none rfl) | apply Go.Confl.chain_is _ (Go.Confl.wanted_is rfl rfl)
                 · intro b w hr hb K hK
                   simp [Go.Confl.readFacts, Go.Confl.tmpsOf, Go.Confl.writerOf, Go.Confl.Is, Op.operands, Call.operands, List.findIdx?, List.findIdx?.go] at hr
                   obtain ⟨⟨v0, v1, -, -⟩, ⟨m0, m1, -, -⟩, -⟩ := HV3.out _ (bel_trans hbi hb)
                   obtain ⟨q0, q1⟩ := HFC.out _ hb
                   go_wp2_with (first
                     | (go_at_call 21; (with_reducible refine (HA _ hb).out.mono ?_); rintro e w' ⟨rfl, hb'⟩)
                     | (go_at_call 20; (with_reducible refine (HBr _ hb).out.mono ?_); rintro e w' ⟨rfl, hb'⟩)
                     | (go_at_call 20; (with_reducible refine (HCy _ hb).out.mono ?_); rintro e w' ⟨rfl, hb'⟩)
                     | (go_at_call 24; (with_reducible refine (HQ _).out.mono ?_); rintro e w' ⟨rfl, hb'⟩))
                   try (simp only [hr]; go_wp2)
                   exact hK _ _ rfl (by first | exact Below.refl _ _ | assumption))
              simp only [List.nil_append, List.cons_append]
            intro us w hp hb
            simp [Go.Confl.allPosts, Go.Confl.Is] at hp
            simp only [Go.Confl.putsFrom, hp, Act.put, List.setIfInBounds_toArray, List.set_cons_zero, List.set_cons_succ]
            have hb : Below Y.heap.size Y w := bel_trans hbi hb
            have HRA := Lib.hid (HCUT.out w hb).1
            have HRB := Lib.hid (show ∀ w', Below w.heap.size w w' → RdK recL w' w.heap.size (.slice (if cc = kk then some ⟨g, 0, none⟩ else some ⟨g, kk * 2, none⟩) (m - kk) (cc - kk)) (ps.drop kk) from fun w' h => (HCUT.out w hb).2.below h)
            clear HA HBr HCy HQ HFC hsub hpm
            have HNW := Lib.hid (show (O.take kk ++ [(⟨q, row⟩ : Rc)]) ++ O.drop kk = srtR TY k (l.take (j + 1)) from by
              have h := srtR_ins (kk := kk) HJ.out HO.out HG.out (.inr HHL.out)
              rw [← h, List.append_assoc]; rfl)
            have HDW := Lib.hid (show DeepR W W.heap.size ((ps.take kk ++ [(⟨q, ⟨rA2, rn2, rc2⟩⟩ : Rs)]) ++ ps.drop kk) (srtR TY k (l.take (j + 1))) from by
              have h := ((HD.out.take kk).app (DeepR.one (p := ⟨q, ⟨rA2, rn2, rc2⟩⟩) (r := ⟨q, row⟩) rfl HQW.out)).app (HD.out.drop kk)
              rw [← HNW.out]; exact h)
            have HSW := Lib.hid (show W.heap.size + 1 ≤ w.heap.size by have := HWY.out; have := hb.size; omega)
            have HLA := Lib.hid (show (ps.take kk : List Rs).length ≤ 4398046510976 by have := HPS.out; simp only [List.length_take] at *; omega)
            have HLB := Lib.hid (show (ps.take kk : List Rs).length + (ps.drop kk : List Rs).length ≤ 4398046510976 by have := HPS.out; simp only [List.length_take, List.length_drop] at *; omega)
            have HT1 := Lib.hid (show ([] : List Rs).length + (ps.take kk : List Rs).length ≤ maxLen by have := HLA.out; unfold maxLen; simp only [List.length_nil] at *; omega)
            have HT2 := Lib.hid (show (([] : List Rs).length + (ps.take kk : List Rs).length) * 32 ≤ 140737488355328 by have := HLA.out; simp only [List.length_nil] at *; omega)
            have HT3 := Lib.hid (show ([] ++ ps.take kk : List Rs).length + [(⟨q, ⟨rA2, rn2, rc2⟩⟩ : Rs)].length ≤ maxLen by have := HLA.out; unfold maxLen; simp only [List.length_append, List.length_cons, List.length_nil] at *; omega)
            have HT4 := Lib.hid (show (([] ++ ps.take kk : List Rs).length + [(⟨q, ⟨rA2, rn2, rc2⟩⟩ : Rs)].length) * 32 ≤ 140737488355328 by have := HLA.out; simp only [List.length_append, List.length_cons, List.length_nil] at *; omega)
            have HT5 := Lib.hid (show (([] ++ ps.take kk) ++ [(⟨q, ⟨rA2, rn2, rc2⟩⟩ : Rs)]).length + (ps.drop kk : List Rs).length ≤ maxLen by have := HLB.out; unfold maxLen; simp only [List.length_append, List.length_cons, List.length_nil] at *; omega)
            have HT6 := Lib.hid (show ((([] ++ ps.take kk) ++ [(⟨q, ⟨rA2, rn2, rc2⟩⟩ : Rs)]).length + (ps.drop kk : List Rs).length) * 32 ≤ 140737488355328 by have := HLB.out; simp only [List.length_append, List.length_cons, List.length_nil] at *; omega)
            have HBe := Lib.hid hb
            clear hb
            go_wp2_with (first
              | (at_builtin; refine wpl_appK (L := recL) rfl _ _ 24 rfl w.heap.size 41 32 Try.underlying24 Try.infRec (.slice none 0 0) [] rfl (OwnK.nil _ _ _ _) w.heap.size _ (ps.take kk) rfl HRA.out HT1.out HT2.out (Nat.le_refl _) ?_
                 intro v1 w1 ho1 hb1 _
                 obtain ⟨sA, sn, sc, rfl⟩ := ownK_sl ho1
                 obtain ⟨-, ⟨y0, y1, -, -⟩, -, -, -⟩ := HV3.out w1 (bel_trans HBe.out hb1)
                 have HO1 := Lib.hid (ho1.alloc (.cells #[.int .i64 q, .slice rA2 rn2 rc2] 41))
                 have HX1 := Lib.hid (RdK.lit (L := recL) w1 [(⟨q, ⟨rA2, rn2, rc2⟩⟩ : Rs)] 1 41 (Nat.le_refl 1) (by decide))
                 have HB1 := Lib.hid (hb1.alloc hb1.size (.cells #[.int .i64 q, .slice rA2 rn2 rc2] 41))
                 clear ho1)
              | (at_builtin; refine wpl_appK (L := recL) rfl _ _ 24 rfl w.heap.size 41 32 Try.underlying24 Try.infRec (.slice sA sn sc) ([] ++ ps.take kk) rfl HO1.out _ _ [(⟨q, ⟨rA2, rn2, rc2⟩⟩ : Rs)] rfl HX1.out HT3.out HT4.out HB1.out.size ?_
                 intro v2 w2 ho2 hb2 _
                 have HB2 := Lib.hid (HB1.out.trans hb2)
                 have HX2 := Lib.hid (HRB.out w2 HB2.out)
                 have HO2 := Lib.hid ho2
                 clear ho2 hb2 y0 y1)
              | (at_builtin; refine wpl_appK (L := recL) rfl _ _ 24 rfl w.heap.size 41 32 Try.underlying24 Try.infRec v2 (([] ++ ps.take kk) ++ [(⟨q, ⟨rA2, rn2, rc2⟩⟩ : Rs)]) rfl HO2.out w.heap.size _ (ps.drop kk) rfl HX2.out HT5.out HT6.out HB2.out.size ?_
                 intro v3 w3 ho3 hb3 _))
            have HB3 := Lib.hid ((HV3.out w3 (bel_trans HBe.out (HB2.out.trans hb3))).2.2.1)
            have ho4 := OwnK.lower ho3 HSW.out
            rw [List.nil_append] at ho4
            have HO3 := Lib.hid ho4
            clear ho3 hb3 ho4
            go_roundw
            all_goals first
              | (simp [intOf]; omega)
              | exact ⟨j + 1, _, by go_num, hlt, HO3.out, HDW, HB3.out⟩
              | exact ⟨_, _, _, _, _, ⟨j + 1, _, by go_num, hlt, HO3.out, HDW, HB3.out⟩, rfl, rfl, rfl, rfl, rfl⟩
end Go.Proofs.Ytjbkeipagdmlpaa
