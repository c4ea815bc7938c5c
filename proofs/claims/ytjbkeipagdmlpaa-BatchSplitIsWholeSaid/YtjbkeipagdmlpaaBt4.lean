/- Records copied with rows of their own: package slices' Clone, package batch's copyOf. -/
import Derived.Test.YtjbkeipagdmlpaaBt1
import Derived.Test.YtjbkeipagdmlpaaOpenK
import Derived.Test.YtjbkeipagdmlpaaVlsM
import Derived.Test.YtjbkeipagdmlpaaSchW3
import Derived.Test.YtjbkeipagdmlpaaRecQ
import Derived.Test.YtjbkeipagdmlpaaConfl3
namespace Go.RS
open Go.RowKit Go.VB Go.VS Go.VL Go.SC Go.CK Go.ST Go.MK
/-- Own rows of values as own rows of a layout. -/
theorem ownL_K {e : TypeId} {w : World} {base : Nat} {v : Value} {l : List Vl} (h : OwnL e w base v l) : OwnK valL e w base v l := h
theorem ownK_L {e : TypeId} {w : World} {base : Nat} {v : Value} {l : List Vl} (h : OwnK valL e w base v l) : OwnL e w base v l := h
theorem rdK_L {w : World} {B : Nat} {v : Value} {l : List Vl} (h : RdL w B v l) : RdK valL w B v l := by
  obtain ⟨A, c, hv, hc, hm, hr⟩ := h
  refine ⟨A, c, hv, hc, hm, fun i x hi => ?_⟩
  obtain ⟨ad, h1, h2, h3⟩ := hr i x hi
  refine ⟨ad, h1, h2, fun k u hu => ?_⟩
  exact h3.cell hu
theorem ownL_sl {e : TypeId} {w : World} {base : Nat} {v : Value} {l : List Vl} (h : OwnL e w base v l) : ∃ A n c, v = .slice A n c := by
  rcases (ownL_K h).forms with ⟨rfl, _⟩ | ⟨g, c, rfl, _⟩
  · exact ⟨none, 0, 0, rfl⟩
  · exact ⟨_, _, _, rfl⟩
/-- The records hold these rows, each the call's own. -/
def DeepO (e : TypeId) (w : World) (b : Nat) (ps : List Rs) (l : List Rc) : Prop := ps.length = l.length ∧ ∀ (i : Nat) (p : Rs) (r : Rc), ps[i]? = some p → l[i]? = some r → p.seq = r.seq ∧ OwnL e w b p.row.val r.row
section
variable {e : TypeId} {w w' : World} {b : Nat} {ps : List Rs} {l : List Rc}
theorem DeepO.nil (e : TypeId) (w : World) (b : Nat) : DeepO e w b [] [] := ⟨rfl, fun i p r h _ => by simp at h⟩
theorem DeepO.below (h : DeepO e w b ps l) (hb : Below w.heap.size w w') : DeepO e w' b ps l := ⟨h.1, fun i p r h1 h2 => ⟨(h.2 i p r h1 h2).1, (h.2 i p r h1 h2).2.below hb⟩⟩
theorem DeepO.set (h : DeepO e w b ps l) {a : Addr} (ha : a.block < b) (x : Value) : DeepO e (w.setCell a x) b ps l := ⟨h.1, fun i p r h1 h2 => ⟨(h.2 i p r h1 h2).1, ownsRow_setCell_below (h.2 i p r h1 h2).2 ha x⟩⟩
theorem DeepO.snoc {p : Rs} {r : Rc} (h : DeepO e w b ps l) (h1 : p.seq = r.seq) (h2 : OwnL e w b p.row.val r.row) : DeepO e w b (ps ++ [p]) (l ++ [r]) := by
  refine ⟨by rw [List.length_append, List.length_append, h.1]; rfl, fun i p' r' hp hr => ?_⟩
  by_cases hi : i < ps.length
  · rw [List.getElem?_append_left hi] at hp
    rw [List.getElem?_append_left (by rw [← h.1]; exact hi)] at hr
    exact h.2 i p' r' hp hr
  · rw [List.getElem?_append_right (by omega)] at hp
    rw [List.getElem?_append_right (by rw [← h.1]; omega), ← h.1] at hr
    match hj : i - ps.length, hp, hr with
    | 0, hp, hr => simp at hp hr; subst hp hr; exact ⟨h1, h2⟩
    | _ + 1, hp, _ => simp at hp
theorem DeepO.read (h : DeepO e w b ps l) : DeepR w w.heap.size ps l := ⟨h.1, fun i p r h1 h2 => ⟨(h.2 i p r h1 h2).1, (h.2 i p r h1 h2).2.read⟩⟩
end
/-- Rows of different elements lie in different blocks. -/
theorem own_apart {w : World} {b1 b2 s1 s2 n1 n2 : Nat} {e1 e2 : TypeId} {v1 v2 : Value} {xs1 xs2 : List Value} (h1 : w.ownsRow b1 e1 s1 v1 n1 xs1) (h2 : w.ownsRow b2 e2 s2 v2 n2 xs2) (he : e1 ≠ e2) : v1.ownBlock = none ∨ v1.ownBlock ≠ v2.ownBlock := by
  rcases h1.2 with ⟨rfl, _⟩ | ⟨g, c, cur, rfl, _, hg, _⟩
  · exact .inl rfl
  · right
    intro e
    rcases h2.2 with ⟨rfl, _⟩ | ⟨g2, c2, cur2, rfl, _, hg2, _⟩
    · cases e
    · obtain rfl : g = g2 := Option.some.inj e
      rw [hg] at hg2
      injection hg2 with h
      injection h with _ h
      exact he h
/-- Records of the call's own, with rows of the call's own. -/
def OwnRs (eR eV : TypeId) (w : World) (b : Nat) (v : Value) (l : List Rc) : Prop := ∃ ps, OwnK recL eR w b v ps ∧ DeepO eV w b ps l
section
variable {eR eV e : TypeId} {w w' : World} {b b' : Nat} {v : Value} {l : List Rc} {ps : List Rs}
theorem DeepO.lower (h : DeepO e w b ps l) (hb : b' ≤ b) : DeepO e w b' ps l := ⟨h.1, fun i p r h1 h2 => ⟨(h.2 i p r h1 h2).1, (h.2 i p r h1 h2).2.lower hb⟩⟩
theorem DeepO.keep {b2 s2 n2 : Nat} {e2 : TypeId} {v2 : Value} {xs : List Value} (h : DeepO e w b ps l) (h2 : w.ownsRow b2 e2 s2 v2 n2 xs) (he : e ≠ e2) (hg : w.grownBy w' v2.ownBlock) : DeepO e w' b ps l :=
  ⟨h.1, fun i p r h3 h4 => ⟨(h.2 i p r h3 h4).1, (h.2 i p r h3 h4).2.keep hg (own_apart (h.2 i p r h3 h4).2 h2 he)⟩⟩
theorem OwnRs.below (h : OwnRs eR eV w b v l) (hb : Below w.heap.size w w') : OwnRs eR eV w' b v l := by
  obtain ⟨ps, h1, h2⟩ := h; exact ⟨ps, h1.below hb, h2.below hb⟩
theorem OwnRs.lower (h : OwnRs eR eV w b v l) (hb : b' ≤ b) : OwnRs eR eV w b' v l := by
  obtain ⟨ps, h1, h2⟩ := h; exact ⟨ps, h1.lower hb, h2.lower hb⟩
theorem OwnRs.keep {b2 s2 n2 : Nat} {e2 : TypeId} {v2 : Value} {xs : List Value} (h : OwnRs eR eV w b v l) (h2 : w.ownsRow b2 e2 s2 v2 n2 xs) (he : eR ≠ e2) (he2 : eV ≠ e2) (hg : w.grownBy w' v2.ownBlock) : OwnRs eR eV w' b v l := by
  obtain ⟨ps, h1, h3⟩ := h; exact ⟨ps, h1.keep hg (own_apart h1 h2 he), h3.keep h2 he2 hg⟩
theorem OwnRs.read (h : OwnRs eR eV w b v l) : RdR w w.heap.size v l := by
  obtain ⟨ps, h1, h2⟩ := h; exact ⟨ps, OwnK.read h1, h2.read⟩
end
/-- It returns records of its own, with rows of its own; what was there is as it was. -/
def RetRo (eR eV : TypeId) (l : List Rc) (w : World) : Ending → World → Prop := fun en w' => ∃ v, en = .returned v ∧ OwnRs eR eV w' w.heap.size v l ∧ Below w.heap.size w w'
theorem RetRo.mk {eR eV : TypeId} {l : List Rc} {w w' : World} {x v : Value} (hx : x = v) (ho : OwnRs eR eV w' w.heap.size v l) (hb : Below w.heap.size w w') : RetRo eR eV l w (.returned x) w' := ⟨v, by rw [hx], ho, hb⟩
/-- A slice of the call's own with these values. -/
def OwnQ (e : TypeId) (b : Nat) (l : List Vl) : Go.Confl.Post := fun v w => ∃ A n c, v = .slice A n c ∧ OwnL e w b (.slice A n c) l
theorem OwnQ.stable (e : TypeId) (b : Nat) (l : List Vl) : Go.Confl.Stable (OwnQ e b l) := fun _ _ _ ⟨A, n, c, h1, h2⟩ hb => ⟨A, n, c, h1, h2.below hb⟩
/-- A record whose row is the call's own. -/
def RecQo (e : TypeId) (b : Nat) (q : Int) (l : List Vl) : Go.Confl.Post := fun v w => ∃ A n c, v = .agg #[.int .i64 q, .slice A n c] ∧ OwnL e w b (.slice A n c) l
theorem RecQo.stable (e : TypeId) (b : Nat) (q : Int) (l : List Vl) : Go.Confl.Stable (RecQo e b q l) := fun _ _ _ ⟨A, n, c, h1, h2⟩ hb => ⟨A, n, c, h1, h2.below hb⟩
theorem take_snoc {α : Type} {l : List α} {j : Nat} {x : α} (h : l[j]? = some x) : l.take (j + 1) = l.take j ++ [x] := by
  rw [List.take_add_one, h]; rfl
end Go.RS
namespace Go.Proofs.Ytjbkeipagdmlpaa
open Go.RowKit Go.VB Go.VS Go.VL Go.SC Go.CK Go.ST Go.MK Go.RS
set_option linter.constructorNameAsVariable false
theorem Try.infRec : (Try.prog.info? 41).map (fun i => (i.zero, i.size, i.bytes)) = some (some recL.zv, recL.K, 32) := by kernel_rfl
set_option maxRecDepth 100000 in
set_option maxHeartbeats 400000 in
theorem clone_any (x : Value) (l : List Vl) (w : World) (hx : RdL w w.heap.size x l) (hl : l.length * 32 ≤ 140737488351232) :
    Calls Try.prog 55 #[x] w (RetVl 32 l w) := by
  obtain ⟨A, c, n, rfl, hn, hnc, hcm⟩ := hx.bds
  rcases A with _ | ad
  · have h0 : l = [] := by
      obtain ⟨A', c', hv, _, _, hr⟩ := hx
      cases l with
      | nil => rfl
      | cons y m => obtain ⟨ad, h1, _⟩ := hr 0 y rfl; cases hv; cases h1
    subst h0
    have hn0 : n = 0 := hn
    subst hn0
    clear hn hx hl
    have he : ∀ w : World, (binOp .eql 36 (.slice none 0 c) (.slice none 0 0)).run Try.prog w = .ok (.bool true) w := fun _ => rfl
    go_enter Try.func55, Try.ntmps55
    go_wp2_with fail
    go_ret
    exact RetVl.mk rfl (OwnL.nil _ _ _) (Below.refl _ _)
  · have hb0 := (Below.refl w.heap.size w).alloc (Nat.le_refl _) (.cells #[] 32)
    have HO := Lib.hid (show OwnK valL 32 (w.alloc (.cells #[] 32)) w.heap.size (.slice (some ⟨w.heap.size, 0, none⟩) 0 0) [] from RowK.laid w [] w.heap.size 32 (Nat.le_refl _) (by decide))
    have HX := Lib.hid (rdK_L (hx.step hb0))
    have HL1 := Lib.hid (show ([] : List Vl).length + l.length ≤ maxLen from by unfold maxLen; simp only [List.length_nil]; omega)
    have HL2 := Lib.hid (show (([] : List Vl).length + l.length) * 32 ≤ 140737488355328 from by simp only [List.length_nil]; omega)
    have HL3 := Lib.hid (show w.heap.size ≤ (w.alloc (.cells #[] 32)).heap.size from hb0.size)
    have HB0 := Lib.hid hb0
    have he : ∀ w : World, (binOp .eql 36 (.slice (some ad) n c) (.slice none 0 0)).run Try.prog w = .ok (.bool false) w := fun _ => rfl
    clear hb0 hx hl hn
    go_enter Try.func55, Try.ntmps55
    go_wp2_with (at_builtin; refine wpl_appK (L := valL) rfl _ _ 36 rfl w.heap.size 32 32 Try.underlying36 Try.infVal _ [] rfl HO.out _ _ l rfl HX.out HL1.out HL2.out HL3.out ?_)
    intro v' w' ho hb _
    go_wp2_with fail
    go_ret
    exact RetVl.mk rfl (ownK_L ho) (HB0.out.trans hb)
set_option maxRecDepth 100000 in
set_option maxHeartbeats 1000000 in
theorem copy0_any (x : Value) (l : List Rc) (W : World) (hx : RdR W W.heap.size x l) (hb : l.length * 32 ≤ 140737488351232) (hrow : ∀ r ∈ l, r.row.length * 32 ≤ 140737488351232) :
    Calls Try.prog 37 #[x] W (RetRo 41 32 l W) := by
  obtain ⟨A, c, n, rfl, hn, hnc, hcm⟩ := hx.bds
  have hmk1 := run_makeK (P := Try.prog) (L := recL) Try.underlying24 Try.infRec n (by omega) (by unfold maxLen; omega) W
  have hrw0 := RowK.made recL 41 W W.heap.size n (Nat.le_refl _) (by unfold maxLen; omega)
  have hb0 : Below W.heap.size W (W.alloc (.cells (madeCells recL.zv.cells (n * recL.K)) 41)) := (Below.refl _ _).alloc (Nat.le_refl _) _
  generalize (W.alloc (.cells (madeCells recL.zv.cells (n * recL.K)) 41)) = W1 at hrw0 hb0 hmk1
  have HN := Lib.hid hn; have HX := Lib.hid hx; have HRW := Lib.hid hrow
  clear hn hx hrow hb
  go_enter Try.func37, Try.ntmps37
  go_wp2
  clear hmk1
  go_loopw [4, 5, 11] (fun _ _ i wr => ∃ (j : Nat) (qs ds : List Rs), i = .int .i64 j ∧ j ≤ n ∧ RowK recL 41 wr W.heap.size W.heap.size n qs ∧ Hid (qs.length = n) ∧ Hid (qs = ds ++ List.replicate (n - j) recL.z) ∧ Hid (DeepO 32 wr (W.heap.size + 1) ds (l.take j)) ∧ Below W.heap.size W wr) (fun _ _ i _ => n - (intOf i).toNat)
  case atStart => exact ⟨0, _, [], rfl, Nat.zero_le _, hrw0, Lib.hid List.length_replicate, Lib.hid rfl, Lib.hid (DeepO.nil _ _ _), hb0⟩
  case round =>
    clear hrw0 hb0
    obtain ⟨j, qs, ds, rfl, hj, hrw, HL, HQ, HD, hbel⟩ := hrel
    have hgw := hrw.lt.2
    have HDL := Lib.hid (show ds.length = j by rw [HD.out.1, List.length_take]; have := HN.out; omega)
    by_cases hlt : j < n
    · have hlj : l[j]? = some l[j] := List.getElem?_eq_getElem (by have := HN.out; omega)
      obtain ⟨ad, rA, rn, rc, rfl, -, q0, q1, -, qr⟩ := (HX.out.below hbel).at hlj
      have HJ := Lib.hid hlj; clear hlj
      generalize l[j] = R at q0 q1 qr HJ
      have hRl := HRW.out R (List.mem_of_getElem? HJ.out)
      obtain ⟨q, row⟩ := R
      simp only at q0 q1 qr hRl
      have hbw := (Below.refl wr.heap.size wr).alloc (Nat.le_refl _) (.cells #[.int .i64 q, .slice rA rn rc] 41)
      have HC := fun w (h : Below (wr.alloc (.cells #[.int .i64 q, .slice rA rn rc] 41)).heap.size (wr.alloc (.cells #[.int .i64 q, .slice rA rn rc] 41)) w) => Lib.hid (clone_any (.slice rA rn rc) row w (((qr.more (by omega : W.heap.size ≤ wr.heap.size)).step hbw).step h) hRl)
      have hold := Go.VS.fill_at HQ.out HDL.out hlt
      have HU := Lib.hid (show ∀ w, Below (wr.alloc (.cells #[.int .i64 q, .slice rA rn rc] 41)).heap.size (wr.alloc (.cells #[.int .i64 q, .slice rA rn rc] 41)) w → Var2 w wr.heap.size (.int .i64 q) (.slice rA rn rc) ∧ RowK recL 41 w W.heap.size W.heap.size n qs ∧ Below wr.heap.size wr w from fun w h =>
        ⟨(Var2.new wr _ _ _).step h, (hrw.alloc _).below h, hbw.trans (h.mono (by simp))⟩)
      have HUC := Lib.hid (show ∀ w, Below (wr.alloc (.cells #[.int .i64 q, .slice rA rn rc] 41)).heap.size (wr.alloc (.cells #[.int .i64 q, .slice rA rn rc] 41)) w → w.cell? ⟨W.heap.size, j * 2, none⟩ = some (.int .i64 0) ∧ w.cell? ⟨W.heap.size, j * 2 + 1, none⟩ = some (.slice none 0 0) ∧ w.frozen? ⟨W.heap.size, j * 2, none⟩ = false ∧ w.frozen? ⟨W.heap.size, j * 2 + 1, none⟩ = false from fun w h =>
        have hr := (HU.out w h).2.1
        ⟨hr.at hold 0 rfl, hr.at hold 1 rfl, hr.frozen _, hr.frozen _⟩)
      clear qr hbw hold
      have hlW : W.heap.size < wr.heap.size := hgw
      have HSN := fun x => Lib.hid (Go.VS.fill_snoc (x := (x : Rs)) HQ.out HDL.out hlt)
      have HTS := Lib.hid (take_snoc HJ.out)
      go_wp2_with fail
      clear q0 q1
      refine Go.ConflA.wp_region_tail_at 9 (by simp only [List.take_succ_cons, List.take_zero, List.map_cons, List.map_nil]; rfl) (by kernel_rfl) (by kernel_rfl) (by kernel_rfl) (by kernel_rfl) (by kernel_rfl) (Nat.zero_lt_succ _) (by kernel_rfl) ?_
      simp only [List.take_succ_cons, List.take_zero, List.drop_succ_cons, List.drop_zero]
      iterate 6
        first
        | (refine Go.ConflA.chainA_skip (Go.Confl.unwanted_is rfl rfl) ?_)
        | (first | apply Go.ConflA.chainA_is _ (Go.Confl.wanted_none rfl) | apply Go.ConflA.chainA_is _ (Go.Confl.wanted_is rfl rfl)
           · intro b w hr hb K hK
             simp [Go.Confl.readFacts, Go.Confl.tmpsOf, Go.Confl.writerOf, Go.Confl.Is, Op.operands, List.findIdx?, List.findIdx?.go] at hr
             obtain ⟨⟨v0, v1, -, -⟩, -, -⟩ := HU.out _ hb
             go_wp2_with fail
             try (simp only [hr]; go_wp2)
             exact hK _ _ rfl (by first | exact Below.refl _ _ | assumption))
        simp only [List.nil_append, List.cons_append]
      apply Go.ConflA.chainA_any (OwnQ 32 (W.heap.size + 1) row) (OwnQ.stable _ _ _) (Go.Confl.wanted_none rfl)
      · intro f w hr hb K hK
        simp [Go.Confl.readFacts, Go.Confl.tmpsOf, Go.Confl.writerOf, Go.Confl.Is, Op.operands, Call.operands, List.findIdx?, List.findIdx?.go] at hr
        go_wp2_with fail
        (with_reducible refine (HC _ hb).out.mono ?_); rintro e w' ⟨v, rfl, ho, hb'⟩
        obtain ⟨sA, sn, sc, rfl⟩ := ownL_sl ho
        exact hK _ _ ⟨sA, sn, sc, rfl, ho.lower (by have := hb.size; simp at this; omega)⟩ hb'
      simp only [List.nil_append, List.cons_append]
      apply Go.ConflA.chainA_any (RecQo 32 (W.heap.size + 1) q row) (RecQo.stable _ _ _ _) (Go.Confl.wanted_none rfl)
      · intro f w hr hb K hK
        simp [Go.Confl.readFacts, Go.Confl.tmpsOf, Go.Confl.writerOf, Go.Confl.Is, Op.operands, List.findIdx?, List.findIdx?.go] at hr
        obtain ⟨h19, sA, sn, sc, h22, ho⟩ := hr
        go_wp2_with fail
        exact hK _ _ ⟨sA, sn, sc, rfl, by rw [← h22]; first | exact ho | (rw [h22]; exact ho)⟩ (Below.refl _ _)
      simp only [List.nil_append, List.cons_append]
      iterate 1
        first
        | (refine Go.ConflA.chainA_skip (Go.Confl.unwanted_is rfl rfl) ?_)
        | (first | apply Go.ConflA.chainA_is _ (Go.Confl.wanted_none rfl) | apply Go.ConflA.chainA_is _ (Go.Confl.wanted_is rfl rfl)
           · intro b w hr hb K hK
             simp [Go.Confl.readFacts, Go.Confl.tmpsOf, Go.Confl.writerOf, Go.Confl.Is, Op.operands, List.findIdx?, List.findIdx?.go] at hr
             go_wp2_with fail
             try (simp only [hr]; go_wp2)
             exact hK _ _ rfl (by first | exact Below.refl _ _ | assumption))
        simp only [List.nil_append, List.cons_append]
      intro us w hp hdist hb
      simp [Go.Confl.allPosts, Go.Confl.Is] at hp
      simp only [Go.Confl.putsFrom, Act.put, List.setIfInBounds_toArray, List.set_cons_zero, List.set_cons_succ]
      change wpList _ _ _ _ _ _
      obtain ⟨e0, e1, e2, e3, e4, e5, ⟨sA', sn', sc', e6, ho'⟩, ⟨sA, sn, sc, e7, ho⟩, e8⟩ := hp
      simp only [e0, e1, e2, e3, e4, e5, e6, e7, e8]
      clear e0 e1 e2 e3 e4 e5 e6 e7 e8 hdist ho' HC
      obtain ⟨-, hr2, hbw⟩ := HU.out _ hb
      obtain ⟨c0, c1, f0, f1⟩ := HUC.out _ hb
      have hrp := Lib.hid (show RowK recL 41 ((w.setCell ⟨W.heap.size, j * 2, none⟩ (.int .i64 q)).setCell ⟨W.heap.size, j * 2 + 1, none⟩ (.slice sA sn sc)) W.heap.size W.heap.size n (qs.set j ⟨q, ⟨sA, sn, sc⟩⟩) from hr2.put j (by rw [HL.out]; exact hlt) ⟨q, ⟨sA, sn, sc⟩⟩)
      have hdn := Lib.hid ((((HD.out.below hbw).set (a := ⟨W.heap.size, j * 2, none⟩) (Nat.lt_succ_self _) (.int .i64 q)).set (a := ⟨W.heap.size, j * 2 + 1, none⟩) (Nat.lt_succ_self _) (.slice sA sn sc)).snoc (p := ⟨q, ⟨sA, sn, sc⟩⟩) (r := ⟨q, row⟩) rfl (ownsRow_setCell_below (ownsRow_setCell_below ho (a := ⟨W.heap.size, j * 2, none⟩) (Nat.lt_succ_self _) (.int .i64 q)) (a := ⟨W.heap.size, j * 2 + 1, none⟩) (Nat.lt_succ_self _) (.slice sA sn sc)))
      have hbn := Lib.hid (((hbel.trans (hbw.mono (by omega))).setCell (p := ⟨W.heap.size, j * 2, none⟩) (Nat.le_refl _) (.int .i64 q)).setCell (p := ⟨W.heap.size, j * 2 + 1, none⟩) (Nat.le_refl _) (.slice sA sn sc))
      clear HU HUC hr2 hbw hb ho
      go_wp2_with fail
      go_roundw
      case rel => exact ⟨j + 1, _, ds ++ [⟨q, ⟨sA, sn, sc⟩⟩], by go_num, hlt, hrp.out, Lib.hid (by rw [List.length_set]; exact HL.out), HSN _, Lib.hid (by rw [HTS.out]; exact hdn.out), hbn.out⟩
      case measure => simp [intOf] <;> omega
    · have HT := Lib.hid (show l.take j = l from List.take_of_length_le (by have := HN.out; omega))
      have HF := Lib.hid (show qs = ds by rw [HQ.out, show n - j = 0 by omega, List.replicate_zero, List.append_nil])
      have hd := Lib.hid (show DeepO 32 wr W.heap.size ds l from by have := HD.out.lower (Nat.le_succ W.heap.size); rwa [HT.out] at this)
      go_wp2
      go_ret
      exact RetRo.mk rfl ⟨_, hrw.own_at HL.out HF.out, hd.out⟩ hbel
theorem copy_any (x : Value) (l : List Rc) (W : World) (hx : RdR W W.heap.size x l) (hb : l.length * 32 ≤ 140737488351232) (hrow : ∀ r ∈ l, r.row.length * 32 ≤ 140737488351232) :
    Calls Try.prog 37 #[x] W (RetRs 41 l W) :=
  (copy0_any x l W hx hb hrow).mono fun en w' h => by
    obtain ⟨v, h1, ⟨ps, h2, h3⟩, h4⟩ := h
    exact ⟨v, ps, h1, h2, h3.read, h4⟩
end Go.Proofs.Ytjbkeipagdmlpaa
