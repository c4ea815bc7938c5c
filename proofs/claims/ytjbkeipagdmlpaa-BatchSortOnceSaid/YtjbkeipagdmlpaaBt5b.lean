/- Sorting by merging: package batch's mergeSorted, sortValid, Sort. -/
import Derived.Test.YtjbkeipagdmlpaaBt3b
import Derived.Test.YtjbkeipagdmlpaaBt4
namespace Go.RS
open Go.RowKit Go.VB Go.VS Go.VL Go.SC Go.CK Go.ST Go.MK
def lenS : Value → Nat
  | .slice _ n _ => n
  | _ => 0
theorem addr_zero (a : Addr) : a.add 0 = a := by unfold Addr.add; simp
section
variable {w : World} {B n c : Nat} {ad : Addr} {r : Rc} {l : List Rc} {A : Option Addr} {v : Value}
/-- The first record. -/
theorem RdR.at0 (h : RdR w B (.slice A n c) (r :: l)) : ∃ ad rA rn rc, A = some ad ∧ ad.block < B ∧ w.cell? ad = some (.int .i64 r.seq) ∧ w.cell? ⟨ad.block, ad.off + 1, none⟩ = some (.slice rA rn rc) ∧ RdL w B (.slice rA rn rc) r.row := by
  obtain ⟨ad, rA, rn, rc, h1, h2, h3, h4, -, h6⟩ := h.at (i := 0) (r := r) rfl
  rw [Nat.zero_mul, addr_zero] at h3 h4
  exact ⟨ad, rA, rn, rc, h1, h2, h3, h4, h6⟩
theorem RdR.tail1 (h : RdR w B (.slice (some ad) n c) (r :: l)) : RdR w B (.slice (if c = 1 then some ad else some ⟨ad.block, ad.off + 2, none⟩) (n - 1) (c - 1)) l := by
  have := h.cutC (i := 1) (by simp)
  rw [show ad.add (1 * 2) = ⟨ad.block, ad.off + 2, none⟩ from rfl] at this
  exact this
theorem RdR.tailA (h : RdR w B (.slice (some ad) n c) (r :: l)) (hc : c = 1) : RdR w B (.slice (some ad) (n - 1) 0) l := by
  subst hc; exact h.tail1
theorem RdR.tailB (h : RdR w B (.slice (some ad) n c) (r :: l)) (hc : ¬ c = 1) : RdR w B (.slice (some ⟨ad.block, ad.off + 2, none⟩) (n - 1) (c - 1)) l := by
  have := h.tail1
  rwa [if_neg hc] at this
end
end Go.RS
namespace Go.Proofs.Ytjbkeipagdmlpaa
open Go.RowKit Go.VB Go.VS Go.VL Go.SC Go.CK Go.ST Go.MK Go.RS
set_option linter.constructorNameAsVariable false
set_option maxRecDepth 100000 in
set_option maxHeartbeats 2000000 in
theorem mrg_any (cs : List Col) (v : Value) (k : Nat) (xa xb : Value) (a b : List Rc) (W : World) (hS : RdC W W.heap.size v cs) (hk : k < cs.length) (ha : RdR W W.heap.size xa a) (hb : RdR W W.heap.size xb b)
    (la : ∀ r ∈ a, r.row.length = cs.length) (lb : ∀ r ∈ b, r.row.length = cs.length) (hz : (a.length + b.length) * 32 ≤ 140737488351232) :
    Calls Try.prog 65 #[.agg #[v, .int .i64 (k : Int)], xa, xb] W (RetRs 41 (mrg (recLe (cs.getD k col0).ty k) a b) W) := by
  obtain ⟨A1, c1, n1, rfl, hn1, h11, h12⟩ := ha.bds
  obtain ⟨A2, c2, n2, rfl, hn2, h21, h22⟩ := hb.bds
  have HV := Lib.hid (Var2.new W v (.int .i64 (k : Int)) 28)
  have HB1 := Lib.hid ((Below.refl W.heap.size W).alloc (Nat.le_refl _) (.cells #[v, .int .i64 (k : Int)] 28))
  have HS1 := Lib.hid (show (W.alloc (.cells #[v, .int .i64 (k : Int)] 28)).heap.size = W.heap.size + 1 from by simp)
  have hmk := run_makeK0 (P := Try.prog) (L := recL) Try.underlying24 Try.infRec (n1 + n2) (by omega) (by unfold maxLen; omega) (W.alloc (.cells #[v, .int .i64 (k : Int)] 28))
  have hown0 := OwnK.made0 recL 41 (W.alloc (.cells #[v, .int .i64 (k : Int)] 28)) (W.heap.size + 1) (n1 + n2) (by rw [HS1.out]; omega) (by unfold maxLen; omega)
  have hbX : Below (W.heap.size + 1) (W.alloc (.cells #[v, .int .i64 (k : Int)] 28)) ((W.alloc (.cells #[v, .int .i64 (k : Int)] 28)).alloc (.cells (madeCells recL.zv.cells ((n1 + n2) * recL.K)) 41)) := (Below.refl _ _).alloc (by rw [HS1.out]; omega) _
  generalize ((W.alloc (.cells #[v, .int .i64 (k : Int)] 28)).alloc (.cells (madeCells recL.zv.cells ((n1 + n2) * recL.K)) 41)) = X at *
  rw [Int.natCast_add, HS1.out] at hmk
  rw [HS1.out] at hown0
  have HO := Lib.hid hown0; have HBX := Lib.hid hbX
  have HA := Lib.hid ha; have HC := Lib.hid hb; have HLA := Lib.hid la; have HLB := Lib.hid lb; have HR := Lib.hid hS; have HK := Lib.hid hk
  have HZ := Lib.hid (show (a.length + b.length) * 32 ≤ 140737488351232 from hz)
  have w12 : wrap64 ((n1 : Int) + (n2 : Int)) = (n1 : Int) + (n2 : Int) := by unfold wrap64; omega
  generalize hTY : (cs.getD k col0).ty = TY at *
  have HTY := Lib.hid hTY
  have HM := Lib.hid (show ∃ T, mrg (recLe TY k) a b = T from ⟨_, rfl⟩)
  obtain ⟨T, hT⟩ := HM.out
  rw [hT]
  have HT := Lib.hid hT
  clear ha hb la lb hS hk hz hown0 hbX hTY hT HM hn1 hn2
  go_enter Try.func65, Try.ntmps65
  go_wp2
  clear hmk w12
  go_loopw [1, 2, 7] (fun av bv mv wr => ∃ (a' b' m : List Rc) (ps : List Rs), RdR W W.heap.size av a' ∧ RdR W W.heap.size bv b' ∧ OwnK recL 41 wr (W.heap.size + 1) mv ps ∧ Hid (DeepR wr W.heap.size ps m) ∧ Hid (m ++ mrg (recLe TY k) a' b' = T) ∧ Hid (m.length + a'.length + b'.length = a.length + b.length) ∧ Hid (∀ r ∈ a', r.row.length = cs.length) ∧ Hid (∀ r ∈ b', r.row.length = cs.length) ∧ Below (W.heap.size + 1) (W.alloc (.cells #[v, .int .i64 (k : Int)] 28)) wr) (fun av bv _ _ => lenS av + lenS bv)
  case atStart => exact ⟨a, b, [], [], HA.out, HC.out, HO.out, Lib.hid (DeepR.nil _ _), Lib.hid HT.out, Lib.hid (by simp), HLA, HLB, HBX.out⟩
  case round =>
    clear HLA HLB HBX HA HC HO HT
    obtain ⟨a', b', m, ps, hra, hrb, hown, HD, HT, HLN, HLA, HLB, hbel⟩ := hrel
    have hbW : Below W.heap.size W wr := HB1.out.trans (hbel.mono (Nat.le_succ _))
    have hsz := hbel.size
    rw [HS1.out] at hsz
    obtain ⟨Aa, ca, na, rfl, hna, ha1, ha2⟩ := hra.bds
    obtain ⟨Ab, cb, nb, rfl, hnb, hb1, hb2⟩ := hrb.bds
    obtain ⟨Am, cm, nm, rfl, hnm, hm1, hm2⟩ := hown.read.bds
    have HNA := Lib.hid hna; have HNB := Lib.hid hnb; have HNM := Lib.hid hnm
    have hpm : nm = m.length := hnm.trans HD.out.1
    have HPM := Lib.hid hpm
    clear hna hnb hnm hpm
    by_cases hex : na = 0 ∨ nb = 0
    · have he : m ++ a' ++ b' = T := by
        rcases hex with h | h
        · have : a' = [] := List.eq_nil_of_length_eq_zero (by rw [← HNA.out]; exact h)
          subst this
          rw [List.append_nil, ← HT.out, mrg_nil]
        · have : b' = [] := List.eq_nil_of_length_eq_zero (by rw [← HNB.out]; exact h)
          subst this
          rw [List.append_nil, ← HT.out, mrg_nil']
      obtain ⟨qa, hqa, hda⟩ := hra
      obtain ⟨qb, hqb, hdb⟩ := hrb
      have hfa : decide ((0 : Int) < (na : Int)) = decide (0 < na) := by
        by_cases h : 0 < na
        · rw [decide_eq_true h, decide_eq_true (by omega)]
        · rw [decide_eq_false h, decide_eq_false (by omega)]
      have hl1 : ps.length + qa.length ≤ 4398046510976 := by have := HLN.out; have := HD.out.1; have := hda.1; have := HZ.out; omega
      have hl2 : (ps ++ qa).length + qb.length ≤ 4398046510976 := by have := HLN.out; have := HD.out.1; have := hda.1; have := hdb.1; have := HZ.out; rw [List.length_append]; omega
      have HL1 := Lib.hid hl1; have HL2 := Lib.hid hl2; have HE := Lib.hid he
      have HRA := Lib.hid (hqa.below hbW); have HRB := Lib.hid (hqb.below hbW); have HDA := Lib.hid (hda.below hbW); have HDB := Lib.hid (hdb.below hbW)
      have HOWN := Lib.hid hown; have HBEL := Lib.hid hbel
      clear hl1 hl2 he hqa hqb hda hdb hown hbel hfa HLA HLB HT
      have key : ∀ {P : Prop}, (na = 0 → P) → (¬ na = 0 → nb = 0 → P) → P := fun h1 h2 => by
        by_cases h : na = 0
        · exact h1 h
        · exact h2 h (by rcases hex with h' | h'; exact absurd h' h; exact h')
      clear hex
      refine key (fun h0 => ?_) (fun h0 h1 => ?_)
      · have d0 : decide ((0 : Int) < (na : Int)) = false := decide_eq_false (by omega)
        have d0' : decide (0 < na) = false := decide_eq_false (by omega)
        have d0'' : ¬ (0 : Int) < (na : Int) := by omega
        clear h0 key
        go_wp2_with (first
          | (at_builtin; refine wpl_appK (L := recL) rfl _ _ 24 rfl (W.heap.size + 1) 41 32 Try.underlying24 Try.infRec _ ps rfl HOWN.out W.heap.size _ qa rfl HRA.out (by have := HL1.out; unfold maxLen; omega) (by have := HL1.out; omega) hsz ?_; intro v' w' hown' hb' _; have hrb2 := HRB.out.below (hb'.mono (Nat.le_succ _)); have hsz2 := hb'.size)
          | (at_builtin; refine wpl_appK (L := recL) rfl _ _ 24 rfl (W.heap.size + 1) 41 32 Try.underlying24 Try.infRec v' (ps ++ qa) rfl hown' W.heap.size _ qb rfl hrb2 (by have := HL2.out; unfold maxLen; omega) (by have := HL2.out; omega) (Nat.le_trans hsz hsz2) ?_; intro v2 w2 hown2 hb2 _))
        go_ret
        have hbb := hb'.trans hb2
        have hd := (((HD.out.app HDA.out).app HDB.out).below (hbb.mono (Nat.le_succ _))).more (B' := w2.heap.size) (by have := hb2.size; omega)
        rw [HE.out] at hd
        exact RetRs.mk rfl (hown2.lower (Nat.le_succ _)) hd (HB1.out.trans ((HBEL.out.trans hbb).mono (Nat.le_succ _)))
      · have d0 : decide ((0 : Int) < (na : Int)) = true := decide_eq_true (by omega)
        have d1 : decide ((0 : Int) < (nb : Int)) = false := decide_eq_false (by omega)
        have d0' : decide (0 < na) = true := decide_eq_true (by omega)
        have d1' : decide (0 < nb) = false := decide_eq_false (by omega)
        have d1'' : ¬ (0 : Int) < (nb : Int) := by omega
        clear h0 h1 key
        go_wp2_with (first
          | (at_builtin; refine wpl_appK (L := recL) rfl _ _ 24 rfl (W.heap.size + 1) 41 32 Try.underlying24 Try.infRec _ ps rfl HOWN.out W.heap.size _ qa rfl HRA.out (by have := HL1.out; unfold maxLen; omega) (by have := HL1.out; omega) hsz ?_; intro v' w' hown' hb' _; have hrb2 := HRB.out.below (hb'.mono (Nat.le_succ _)); have hsz2 := hb'.size)
          | (at_builtin; refine wpl_appK (L := recL) rfl _ _ 24 rfl (W.heap.size + 1) 41 32 Try.underlying24 Try.infRec v' (ps ++ qa) rfl hown' W.heap.size _ qb rfl hrb2 (by have := HL2.out; unfold maxLen; omega) (by have := HL2.out; omega) (Nat.le_trans hsz hsz2) ?_; intro v2 w2 hown2 hb2 _))
        go_ret
        have hbb := hb'.trans hb2
        have hd := (((HD.out.app HDA.out).app HDB.out).below (hbb.mono (Nat.le_succ _))).more (B' := w2.heap.size) (by have := hb2.size; omega)
        rw [HE.out] at hd
        exact RetRs.mk rfl (hown2.lower (Nat.le_succ _)) hd (HB1.out.trans ((HBEL.out.trans hbb).mono (Nat.le_succ _)))
    · cases a' with
      | nil => exact absurd (Or.inl HNA.out) hex
      | cons x r =>
      cases b' with
      | nil => exact absurd (Or.inr HNB.out) hex
      | cons y t =>
      have d0 : decide ((0 : Int) < (na : Int)) = true := decide_eq_true (by omega)
      have d1 : decide ((0 : Int) < (nb : Int)) = true := decide_eq_true (by omega)
      have hna1 : 1 ≤ na := by omega
      have hnb1 : 1 ≤ nb := by omega
      have hna1' : (1 : Int) ≤ (na : Int) := by omega
      have hna0' : (0 : Int) < (na : Int) := by omega
      have hnb1' : (1 : Int) ≤ (nb : Int) := by omega
      have hnb0' : (0 : Int) < (nb : Int) := by omega
      clear hex
      obtain ⟨ad, xA, xn, xc, rfl, hab, q0, q1, qr⟩ := (hra.below hbW).at0
      obtain ⟨bd, yA, yn, yc, rfl, hbb, p0, p1, pr⟩ := (hrb.below hbW).at0
      have hlx := HLA.out x (List.mem_cons_self ..)
      have hly := HLB.out y (List.mem_cons_self ..)
      have HQ := fun w (h : Below wr.heap.size wr w) => Lib.hid (isLess_any cs v k y x _ _ w ((HR.out.step hbW).step h) HK.out ((pr.more (by omega : W.heap.size ≤ wr.heap.size)).step h) ((qr.more (by omega : W.heap.size ≤ wr.heap.size)).step h) hly hlx)
      rw [HTY.out] at HQ
      have HV2 := fun w (h : Below wr.heap.size wr w) => Lib.hid (And.intro ((HV.out.below hbel (Nat.lt_succ_self _)).step h) (And.intro (hbel.trans (h.mono (by omega))) (And.intro (HD.out.below (h.mono (by omega))) (OwnK.below hown h))))
      have HQC := fun w (h : Below wr.heap.size wr w) => Lib.hid (show w.cell? ad = some (.int .i64 x.seq) ∧ w.cell? ⟨ad.block, ad.off + 1, none⟩ = some (.slice xA xn xc) ∧ w.cell? bd = some (.int .i64 y.seq) ∧ w.cell? ⟨bd.block, bd.off + 1, none⟩ = some (.slice yA yn yc) ∧ RdL w W.heap.size (.slice xA xn xc) x.row ∧ RdL w W.heap.size (.slice yA yn yc) y.row from
        ⟨by rw [h.cell (by omega)]; exact q0, by rw [h.cell (p := ⟨ad.block, _, none⟩) (by show ad.block < _; omega)]; exact q1, by rw [h.cell (by omega)]; exact p0, by rw [h.cell (p := ⟨bd.block, _, none⟩) (by show bd.block < _; omega)]; exact p1, qr.below (h.mono (by omega)), pr.below (h.mono (by omega))⟩)
      have hlm : nm + 1 ≤ 4398046510976 := by have := HLN.out; have := HPM.out; have := HZ.out; simp only [List.length_cons] at *; omega
      have HRA := Lib.hid hra; have HRB := Lib.hid hrb; have HLM := Lib.hid hlm
      have HLA2 := Lib.hid (show ∀ z ∈ r, z.row.length = cs.length from fun z hz => HLA.out z (List.mem_cons_of_mem _ hz))
      have HLB2 := Lib.hid (show ∀ z ∈ t, z.row.length = cs.length from fun z hz => HLB.out z (List.mem_cons_of_mem _ hz))
      obtain ⟨qx, hqx⟩ : ∃ q, x.seq = q := ⟨_, rfl⟩
      obtain ⟨qy, hqy⟩ : ∃ q, y.seq = q := ⟨_, rfl⟩
      rw [hqx, hqy] at HQ HQC
      have HQX := Lib.hid hqx; have HQY := Lib.hid hqy
      clear hra hrb hlm hqx hqy q0 q1 qr p0 p1 pr hlx hly hown hbel hab hbb
      by_cases hc : cmpRec TY k y x < 0
      · have hd : decide (cmpRec TY k y x < 0) = true := decide_eq_true hc
        rw [hd] at HQ
        have HTN := Lib.hid (show (m ++ [y]) ++ mrg (recLe TY k) (x :: r) t = T by rw [← HT.out, mrg_gt (recLe_neg.2 hc), List.append_assoc]; rfl)
        have HLN2 := Lib.hid (show (m ++ [y]).length + (x :: r).length + t.length = a.length + b.length by rw [← HLN.out]; simp only [List.length_append, List.length_cons, List.length_nil]; omega)
        clear hd hc HT HLN
        go_wp2_with fail
        refine Go.Confl.wp_region_confl (by simp only [List.map_cons, List.map_nil]; rfl) (by kernel_rfl) (by kernel_rfl) ?_
        iterate 8
          first
          | (refine Go.Confl.chain_skip (Go.Confl.unwanted_is rfl rfl) ?_)
          | (first | apply Go.Confl.chain_is _ (Go.Confl.wanted_none rfl) | apply Go.Confl.chain_is _ (Go.Confl.wanted_is rfl rfl)
             · intro b w hr hb K hK
               simp [Go.Confl.readFacts, Go.Confl.tmpsOf, Go.Confl.writerOf, Go.Confl.Is, Op.operands, Call.operands, List.findIdx?, List.findIdx?.go] at hr
               obtain ⟨⟨v0, v1, -, -⟩, -, -⟩ := (HV2 _ hb).out
               obtain ⟨q0, q1, p0, p1, -, -⟩ := (HQC _ hb).out
               go_wp2_with (first
                 | (go_at_call 49; (with_reducible refine (HQ _ hb).out.mono ?_); rintro e w' ⟨rfl, hb'⟩))
               try (simp only [hr]; go_wp2)
               exact hK _ _ rfl (by first | exact Below.refl _ _ | assumption))
          simp only [List.nil_append, List.cons_append]
        intro us w hp hb
        simp [Go.Confl.allPosts, Go.Confl.Is] at hp
        simp only [Go.Confl.putsFrom, hp, Act.put, List.setIfInBounds_toArray, List.set_cons_zero, List.set_cons_succ]
        obtain ⟨-, hbel, hdm, hown⟩ := (HV2 _ hb).out
        obtain ⟨-, -, p0, p1, -, pr⟩ := (HQC _ hb).out
        have hszw : W.heap.size + 1 ≤ w.heap.size := by have := hb.size; omega
        have HBEL := Lib.hid hbel; have HDM := Lib.hid hdm; have HOWN := Lib.hid hown; have HPR := Lib.hid pr
        clear HQ HQC HV2 hb hbel hdm hown pr
        go_wp2_with fail
        go_region_law (refine step_appK (L := recL) rfl (.tmp 30) (.tmp 34) 24 rfl (W.heap.size + 1) 41 32 Try.underlying24 Try.infRec (.slice Am nm cm) ps rfl (HOWN.out.drew.alloc _) (w.heap.size + 1) (.slice (some ⟨w.heap.size, 0, none⟩) 1 1) [⟨qy, ⟨yA, yn, yc⟩⟩] rfl (RdK.lit (L := recL) _ [⟨qy, ⟨yA, yn, yc⟩⟩] 1 _ (Nat.le_refl 1) (by decide)) (by have := HLM.out; have := HNM.out; unfold maxLen; simp only [List.length_cons, List.length_nil]; omega) (by have := HLM.out; have := HNM.out; simp only [List.length_cons, List.length_nil]; omega) (by simp; omega) ?_; intro v' w' hown' hb' _)
        all_goals go_wp2_with fail
        all_goals go_roundw
        all_goals first
          | (simp only [lenS]; omega)
          | (exact ⟨_, _, _, ⟨x :: r, HRA.out, t, (by first | exact HRB.out.tailA (by assumption) | exact HRB.out.tailB (by assumption)), m ++ [y], ps ++ [⟨qy, ⟨yA, yn, yc⟩⟩], hown', Lib.hid ((HDM.out.app (DeepR.one (p := ⟨qy, ⟨yA, yn, yc⟩⟩) (r := y) HQY.out.symm HPR.out)).below (((Below.refl _ _).alloc (by omega) _).drew.trans (hb'.mono (Nat.le_succ _)))), HTN, HLN2, HLA, HLB2, (HBEL.out.alloc hszw _).drew.trans hb'⟩, rfl, rfl, rfl⟩)
      · have hd : decide (cmpRec TY k y x < 0) = false := decide_eq_false hc
        rw [hd] at HQ
        have HTN := Lib.hid (show (m ++ [x]) ++ mrg (recLe TY k) r (y :: t) = T by
          have hle : recLe TY k x y = true := by
            cases h : recLe TY k x y with
            | true => rfl
            | false => exact absurd (recLe_neg.1 h) hc
          rw [← HT.out, mrg_le hle, List.append_assoc]; rfl)
        have HLN2 := Lib.hid (show (m ++ [x]).length + r.length + (y :: t).length = a.length + b.length by rw [← HLN.out]; simp only [List.length_append, List.length_cons, List.length_nil]; omega)
        clear hd hc HT HLN
        go_wp2_with fail
        refine Go.Confl.wp_region_confl (by simp only [List.map_cons, List.map_nil]; rfl) (by kernel_rfl) (by kernel_rfl) ?_
        iterate 8
          first
          | (refine Go.Confl.chain_skip (Go.Confl.unwanted_is rfl rfl) ?_)
          | (first | apply Go.Confl.chain_is _ (Go.Confl.wanted_none rfl) | apply Go.Confl.chain_is _ (Go.Confl.wanted_is rfl rfl)
             · intro b w hr hb K hK
               simp [Go.Confl.readFacts, Go.Confl.tmpsOf, Go.Confl.writerOf, Go.Confl.Is, Op.operands, Call.operands, List.findIdx?, List.findIdx?.go] at hr
               obtain ⟨⟨v0, v1, -, -⟩, -, -⟩ := (HV2 _ hb).out
               obtain ⟨q0, q1, p0, p1, -, -⟩ := (HQC _ hb).out
               go_wp2_with (first
                 | (go_at_call 49; (with_reducible refine (HQ _ hb).out.mono ?_); rintro e w' ⟨rfl, hb'⟩))
               try (simp only [hr]; go_wp2)
               exact hK _ _ rfl (by first | exact Below.refl _ _ | assumption))
          simp only [List.nil_append, List.cons_append]
        intro us w hp hb
        simp [Go.Confl.allPosts, Go.Confl.Is] at hp
        simp only [Go.Confl.putsFrom, hp, Act.put, List.setIfInBounds_toArray, List.set_cons_zero, List.set_cons_succ]
        obtain ⟨-, hbel, hdm, hown⟩ := (HV2 _ hb).out
        obtain ⟨q0, q1, -, -, qr, -⟩ := (HQC _ hb).out
        have hszw : W.heap.size + 1 ≤ w.heap.size := by have := hb.size; omega
        have HBEL := Lib.hid hbel; have HDM := Lib.hid hdm; have HOWN := Lib.hid hown; have HPR := Lib.hid qr
        clear HQ HQC HV2 hb hbel hdm hown qr
        go_wp2_with fail
        go_region_law (refine step_appK (L := recL) rfl (.tmp 38) (.tmp 42) 24 rfl (W.heap.size + 1) 41 32 Try.underlying24 Try.infRec (.slice Am nm cm) ps rfl (HOWN.out.drew.alloc _) (w.heap.size + 1) (.slice (some ⟨w.heap.size, 0, none⟩) 1 1) [⟨qx, ⟨xA, xn, xc⟩⟩] rfl (RdK.lit (L := recL) _ [⟨qx, ⟨xA, xn, xc⟩⟩] 1 _ (Nat.le_refl 1) (by decide)) (by have := HLM.out; have := HNM.out; unfold maxLen; simp only [List.length_cons, List.length_nil]; omega) (by have := HLM.out; have := HNM.out; simp only [List.length_cons, List.length_nil]; omega) (by simp; omega) ?_; intro v' w' hown' hb' _)
        all_goals go_wp2_with fail
        all_goals go_roundw
        all_goals first
          | (simp only [lenS]; omega)
          | exact ⟨_, _, _, ⟨r, (by first | exact HRA.out.tailA (by assumption) | exact HRA.out.tailB (by assumption)), y :: t, HRB.out, m ++ [x], ps ++ [⟨qx, ⟨xA, xn, xc⟩⟩], hown', Lib.hid ((HDM.out.app (DeepR.one (p := ⟨qx, ⟨xA, xn, xc⟩⟩) (r := x) HQX.out.symm HPR.out)).below (((Below.refl _ _).alloc (by omega) _).drew.trans (hb'.mono (Nat.le_succ _)))), HTN, HLN2, HLA2, HLB, (HBEL.out.alloc hszw _).drew.trans hb'⟩, rfl, rfl, rfl⟩
end Go.Proofs.Ytjbkeipagdmlpaa

namespace Go.ST
section
variable {α : Type} {le : α → α → Bool}
theorem insR_len (le : α → α → Bool) (out : List α) (r : α) : (insR le out r).length = out.length + 1 := by
  have e : out.takeWhile (le · r) ++ out.dropWhile (le · r) = out := List.takeWhile_append_dropWhile
  have h := congrArg List.length e
  rw [List.length_append] at h
  unfold insR
  rw [List.length_append, List.length_cons]
  omega
theorem srtL_len (le : α → α → Bool) (l : List α) : (srtL le l).length = l.length := by
  have key : ∀ (l out : List α), (l.foldl (insR le) out).length = out.length + l.length := by
    intro l
    induction l with
    | nil => intro out; simp
    | cons x r ih => intro out; rw [List.foldl_cons, ih, insR_len, List.length_cons]; omega
  rw [srtL, key]; simp
end
end Go.ST
namespace Go.RS
open Go.RowKit Go.VB Go.VS Go.VL Go.SC Go.CK Go.ST Go.MK
theorem srtR_len (ty : Int) (k : Nat) (l : List Rc) : (srtR ty k l).length = l.length := srtL_len _ l
theorem srtR_mem {ty : Int} {k : Nat} {l : List Rc} {x : Rc} (h : x ∈ srtR ty k l) : x ∈ l := ((srtL_spec (recLe_ord ty k) l).mem (recLe_ord ty k) x).1 h
theorem srtR_small {ty : Int} {k : Nat} {l : List Rc} (h : l.length < 2) : srtR ty k l = l := by
  refine (srtR_is (IsS.self ?_)).symm
  match l, h with
  | [], _ => exact List.Pairwise.nil
  | [a], _ => exact List.pairwise_singleton _ _
theorem srtR_halves (ty : Int) (k m : Nat) (l : List Rc) : mrg (recLe ty k) (srtR ty k (l.take m)) (srtR ty k (l.drop m)) = srtR ty k l := by
  refine srtR_is ?_
  have := IsS.mrg (recLe_ord ty k) (srtL_spec (recLe_ord ty k) (l.take m)) (srtL_spec (recLe_ord ty k) (l.drop m))
  rw [List.take_append_drop] at this
  exact this
end Go.RS
namespace Go.Proofs.Ytjbkeipagdmlpaa
open Go.RowKit Go.VB Go.VS Go.VL Go.SC Go.CK Go.ST Go.MK Go.RS
set_option linter.constructorNameAsVariable false
set_option maxRecDepth 100000 in
set_option maxHeartbeats 2000000 in
theorem sortv_any (cs : List Col) (v : Value) (k : Nat) (hk : k < cs.length) (hc12 : cs.length ≤ 12) (n : Nat) : ∀ (x : Value) (l : List Rc) (W : World), l.length ≤ n → RdC W W.heap.size v cs → RdR W W.heap.size x l → (∀ r ∈ l, r.row.length = cs.length) → l.length * 32 ≤ 140737488351232 →
    Calls Try.prog 51 #[.agg #[v, .int .i64 (k : Int)], x] W (RetRs 41 (srtR (cs.getD k col0).ty k l) W) := by
  have small : ∀ (x : Value) (l : List Rc) (W : World), l.length < 2 → RdC W W.heap.size v cs → RdR W W.heap.size x l → (∀ r ∈ l, r.row.length = cs.length) →
      Calls Try.prog 51 #[.agg #[v, .int .i64 (k : Int)], x] W (RetRs 41 (srtR (cs.getD k col0).ty k l) W) := by
    intro x l W hs hS hx hl
    rw [srtR_small hs]
    obtain ⟨A, c, m, rfl, hm, h1, h2⟩ := hx.bds
    have hb1 := (Below.refl W.heap.size W).alloc (Nat.le_refl _) (.cells #[v, .int .i64 (k : Int)] 28)
    have HC := Lib.hid (copy_any (.slice A m c) l (W.alloc (.cells #[v, .int .i64 (k : Int)] 28)) (hx.step hb1) (by omega) (fun r hr => by rw [hl r hr]; omega))
    have HB1 := Lib.hid hb1
    have HS1 := Lib.hid (show (W.alloc (.cells #[v, .int .i64 (k : Int)] 28)).heap.size = W.heap.size + 1 from by simp)
    have hd : decide ((m : Int) < 2) = true := decide_eq_true (by omega)
    clear hs hS hx hl hb1 hm
    go_enter Try.func51, Try.ntmps51
    go_wp2_with fail
    (with_reducible refine HC.out.mono ?_); rintro e w1 ⟨v1, ps, rfl, ho, hdp, hb2⟩
    go_wp2_with fail
    go_ret
    exact RetRs.mk rfl (ho.lower (by rw [HS1.out]; omega)) hdp (bel_trans HB1.out hb2)
  induction n with
  | zero =>
    intro x l W hn hS hx hl _
    exact small x l W (by omega) hS hx hl
  | succ n ih =>
    intro x l W hn hS hx hl hz
    by_cases hs : l.length < 2
    · exact small x l W hs hS hx hl
    clear small
    obtain ⟨A, c, m0, rfl, hm0, h1, h2⟩ := hx.bds
    obtain ⟨y, hy⟩ : ∃ y, l[0]? = some y := ⟨l[0], List.getElem?_eq_getElem (by omega)⟩
    obtain ⟨ad, _, _, _, rfl, _⟩ := hx.at hy
    have hh := srtR_halves (cs.getD k col0).ty k (l.length / 2) l
    obtain ⟨m, hm⟩ : ∃ m, l.length / 2 = m := ⟨_, rfl⟩
    have hm1 : 1 ≤ m := by omega
    have hm2 : m < l.length := by omega
    rw [hm] at hh
    have hdr : (l.drop m).length = l.length - m := List.length_drop
    have htk : (l.take m).length = m := by rw [List.length_take]; omega
    have hr1 : RdR W W.heap.size (.slice (some ad) m c) (l.take m) := hx.head (by omega)
    have hr2 := hx.cutC (i := m) (by omega)
    have hcm : ¬ c = m := by omega
    rw [if_neg hcm] at hr2
    have hqt : (m0 : Int).tdiv 2 = (m : Int) := by rw [Int.tdiv_eq_ediv_of_nonneg (by omega)]; omega
    have hq : (m0 : Int) / 2 = (m : Int) := by omega
    have hbX := (Below.refl W.heap.size W).alloc (Nat.le_refl _) (.cells #[v, .int .i64 (k : Int)] 28)
    have hV := Var2.new W v (.int .i64 (k : Int)) 28
    have hs1 : (W.alloc (.cells #[v, .int .i64 (k : Int)] 28)).heap.size = W.heap.size + 1 := by simp
    have HX := Lib.hid (show ∃ X, W.alloc (.cells #[v, .int .i64 (k : Int)] 28) = X from ⟨_, rfl⟩)
    obtain ⟨X, hX⟩ := HX.out
    rw [hX] at hbX hV hs1
    have H1 := fun w' (hb : Below X.heap.size X w') => Lib.hid (ih (.slice (some ad) m c) (l.take m) w' (by omega) (hS.step (bel_trans hbX hb)) (hr1.step (bel_trans hbX hb)) (fun r hr => hl r (List.mem_of_mem_take hr)) (by omega))
    have H2 := fun w' (hb : Below X.heap.size X w') => Lib.hid (ih (.slice (some (ad.add (m * 2))) (m0 - m) (c - m)) (l.drop m) w' (by omega) (hS.step (bel_trans hbX hb)) (hr2.step (bel_trans hbX hb)) (fun r hr => hl r (List.mem_of_mem_drop hr)) (by omega))
    have hsl1 := srtR_len (cs.getD k col0).ty k (l.take m); have hsl2 := srtR_len (cs.getD k col0).ty k (l.drop m)
    have H3 := fun va vb w' (hb : Below X.heap.size X w') (h1 : RdR w' w'.heap.size va (srtR (cs.getD k col0).ty k (l.take m))) (h2 : RdR w' w'.heap.size vb (srtR (cs.getD k col0).ty k (l.drop m))) =>
      Lib.hid (mrg_any cs v k va vb _ _ w' (hS.step (bel_trans hbX hb)) hk h1 h2 (fun r hr => hl r (List.mem_of_mem_take (srtR_mem hr))) (fun r hr => hl r (List.mem_of_mem_drop (srtR_mem hr))) (by rw [hsl1, hsl2, hdr, htk]; omega))
    rw [hh] at H3
    have HV := fun w' (hb : Below X.heap.size X w') => Lib.hid (And.intro (hV.step hb) (bel_trans hbX hb))
    have hd : decide ((m0 : Int) < 2) = false := decide_eq_false (by omega)
    have hmm : (m : Int) ≤ (m0 : Int) := by omega
    have hmm' : m ≤ m0 := by omega
    have hmc : m ≤ c := by omega
    have hmc' : (m : Int) ≤ (c : Int) := by omega
    have hX' := Lib.hid hX
    have HSX := Lib.hid hs1
    clear hr1 hr2 ih hsl1 hsl2 hh hn hdr htk hm hS hx hl hz hs hy hX hm0 hbX hV hs1 hm2
    generalize srtR (cs.getD k col0).ty k (l.take m) = S1 at *
    generalize srtR (cs.getD k col0).ty k (l.drop m) = S2 at *
    generalize srtR (cs.getD k col0).ty k l = S at *
    obtain ⟨⟨v0, v1, -, -⟩, -⟩ := (HV X (Below.refl _ _)).out
    go_enter Try.func51, Try.ntmps51
    go_wp2_with fail
    rw [hX'.out]
    clear hq hqt
    have hb0 : Below X.heap.size X X.drew := (Below.refl _ X).drew
    go_region_with (first
      | (go_at_call 51; (with_reducible refine (H1 _ hb0).out.mono ?_); rintro e w1 ⟨u1, ps1, rfl, ho1, hd1, hb1⟩; have hr1 := Go.RS.OwnK.rdR ho1 hd1; have hbB1 : Below X.heap.size X w1 := bel_trans hb0 hb1; obtain ⟨⟨x0, x1, -, -⟩, -⟩ := (HV w1 hbB1).out; clear ho1 hd1)
      | (go_at_call 51; (with_reducible refine (H2 _ hbB1).out.mono ?_); rintro e w2 ⟨u2, ps2, rfl, ho2, hd2, hb2⟩; have hr2 := Go.RS.OwnK.rdR ho2 hd2; have hr1' := hr1.step hb2; have hbB2 : Below X.heap.size X w2 := bel_trans hbB1 hb2; obtain ⟨⟨y0, y1, -, -⟩, -⟩ := (HV w2 hbB2).out; clear ho2 hd2 hr1)
      | (go_at_call 65; (with_reducible refine (H3 _ _ _ hbB2 hr1' hr2).out.mono ?_); rintro e w3 ⟨u3, ps3, rfl, ho3, hd3, hb3⟩))
    all_goals go_wp2
    all_goals go_ret
    all_goals have hbb := (HV w3 (bel_trans hbB2 hb3)).out.2
    all_goals exact RetRs.mk rfl (ho3.lower (by have := hbB2.size; have := HSX.out; omega)) hd3 hbb
set_option maxRecDepth 100000 in
set_option maxHeartbeats 1000000 in
theorem bsort_any (cs : List Col) (v : Value) (key : Int) (x : Value) (l : List Rc) (W : World) (hr : RdC W W.heap.size v cs) (hx : RdR W W.heap.size x l) (hz : l.length * 32 ≤ 140737488351232) :
    Calls Try.prog 28 #[.agg #[v, .int .i64 key], x] W (RetRs 41 (sortR cs key l) W) := by
  have hV := Var2.new W v (.int .i64 key) 28
  have hB := (Below.refl W.heap.size W).alloc (Nat.le_refl _) (.cells #[v, .int .i64 key] 28)
  have hs1 : (W.alloc (.cells #[v, .int .i64 key] 28)).heap.size = W.heap.size + 1 := by simp
  have HX := Lib.hid (show ∃ X, W.alloc (.cells #[v, .int .i64 key] 28) = X from ⟨_, rfl⟩)
  obtain ⟨X, hX⟩ := HX.out
  rw [hX] at hB hV hs1
  have hVal := aval_any cs v key x l X (hr.step hB) (hx.step hB)
  have HX' := Lib.hid hX; have HS1 := Lib.hid hs1; have HB := Lib.hid hB
  obtain ⟨v0, v1, _, _⟩ := id hV
  cases hv : valR cs key l with
  | false =>
    rw [sortR_inv hv]
    rw [hv] at hVal
    have hVal := Lib.hid hVal
    clear hv hX hs1 hB hr hx hz
    go_enter Try.func28, Try.ntmps28
    go_wp2_with fail
    rw [HX'.out]
    go_wp2_with fail
    (with_reducible refine hVal.out.mono ?_); rintro e w1 ⟨rfl, hb1⟩
    go_wp2_with fail
    go_ret
    exact RetRs.mk rfl (OwnK.nil _ _ _ _) (DeepR.nil _ _) (bel_trans HB.out hb1)
  | true =>
    rw [sortR_val hv]
    rw [hv] at hVal
    have hVal := Lib.hid hVal
    obtain ⟨hck, hall⟩ := valR_sound hv
    obtain ⟨-, h12, -, hk0, hk1⟩ := chkS_ok hck
    obtain ⟨k, rfl⟩ : ∃ k : Nat, key = k := ⟨key.toNat, by omega⟩
    rw [show keyT cs (k : Int) = (cs.getD k col0).ty from rfl, Int.toNat_natCast]
    have HQ := fun w (hb : Below X.heap.size X w) => Lib.hid (sortv_any cs v k (by omega) h12 l.length x l w (Nat.le_refl _) (hr.step (bel_trans hB hb)) (hx.step (bel_trans hB hb)) (fun r hr => (okRec_sound (hall r hr)).2.2) hz)
    have HV := fun w (hb : Below X.heap.size X w) => Lib.hid (And.intro (hV.step hb) (bel_trans hB hb))
    clear hv hX hs1 hB hr hx hz hck hall h12 hk0 hk1 hV
    go_enter Try.func28, Try.ntmps28
    go_wp2_with fail
    rw [HX'.out]
    go_wp2_with fail
    (with_reducible refine hVal.out.mono ?_); rintro e w1 ⟨rfl, hb1⟩
    have hq := Lib.hid (HQ w1 hb1).out
    obtain ⟨⟨x0, x1, -, -⟩, hbW⟩ := (HV w1 hb1).out
    clear v0 v1 HQ
    go_wp2_with fail
    (with_reducible refine hq.out.mono ?_); rintro e w2 ⟨u, ps, rfl, ho, hd, hb2⟩
    have hbb := (HV w2 (bel_trans hb1 hb2)).out.2
    go_wp2_with fail
    go_ret
    exact RetRs.mk rfl (ho.lower hbW.size) hd hbb
end Go.Proofs.Ytjbkeipagdmlpaa
