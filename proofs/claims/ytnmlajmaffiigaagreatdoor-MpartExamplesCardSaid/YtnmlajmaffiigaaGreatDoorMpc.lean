/- Layer 16: the walk over package mpart's describe. -/
import Derived.Test.YtnmlajmaffiigaaGreatDoorMpb
import Derived.Test.YtnmlajmaffiigaaGreatDoorBt3
import Derived.Test.YtnmlajmaffiigaaGreatDoorZon
import Derived.Test.YtnmlajmaffiigaaGreatDoorGc
import Derived.Test.YtnmlajmaffiigaaGreatDoorMpa
import Derived.Test.YtnmlajmaffiigaaGreatDoorZoW7
import Derived.Test.YtnmlajmaffiigaaGreatDoorSchJ
import Derived.Test.YtnmlajmaffiigaaGreatDoorShelf
namespace Go.MP
open Go.RowKit Go.VB Go.VS Go.VL Go.CK Go.RS Go.SC Go.MK Go.ZN
theorem zn_fill {cs : List Col} {l : List Rc} {j n : Nat} {t : List Zn} {x : Zn} (ht : t = zns cs l j ++ List.replicate (n - j) zn0) (hj : j < n) (hx : x = zof (cs.getD j col0).ty (Go.RS.colL j l)) : t.set j x = zns cs l (j + 1) ++ List.replicate (n - (j + 1)) zn0 := by
  rw [zns_snoc, ← hx]
  exact fillK_snoc ht (zns_len ..) hj
theorem zn_at {cs : List Col} {l : List Rc} {j n : Nat} {t : List Zn} (ht : t = zns cs l j ++ List.replicate (n - j) zn0) (hj : j < n) : t[j]? = some zn0 := by
  subst ht
  rw [List.getElem?_append_right (by rw [zns_len]; exact Nat.le_refl _), zns_len, Nat.sub_self, List.getElem?_replicate]
  exact if_pos (by omega)
end Go.MP
namespace Go.Proofs.YtnmlajmaffiigaaGreatDoor
open Go.RowKit Go.VB Go.VarM Go.BP Go.VS Go.VL Go.SC Go.CK Go.ST Go.MK Go.RS Go.ZN Go.MP Go.RL
set_option linter.constructorNameAsVariable false
theorem Tryz.infZon : (Tryz.prog.info? 59).map (fun i => (i.zero, i.size, i.bytes)) = some (some zonL.zv, 8, 80) := by kernel_rfl
theorem brk_at (cs : List Col) (v : Value) (key : Int) (r : Rc) (xa : Value) (w : World) (hS : RdC w w.heap.size v cs) (hx : RdL w w.heap.size xa r.row) (h0 : 0 ≤ key) (hk : key.toNat < r.row.length) :
    Calls Tryz.prog 87 #[.agg #[v, .int .i64 key], .agg #[.int .i64 r.seq, xa]] w (RetB (.agg #[.bool (keyV key.toNat r).nu, .int .i64 (keyV key.toNat r).n, .string (keyV key.toNat r).s, .int .i64 r.seq]) w) := by
  obtain ⟨A2, c2, rfl, _, _, _⟩ := hS
  obtain ⟨rA, rc, n1, rfl, h1, -, -⟩ := hx.bds
  subst h1
  obtain ⟨k, rfl⟩ : ∃ k : Nat, key = k := ⟨key.toNat, by omega⟩
  rw [Int.toNat_natCast] at hk ⊢
  obtain ⟨e1, e2⟩ := rankV_in hk
  have := brank_any A2 cs.length c2 k r rA rc w hx
  rw [e1, e2] at this
  exact this
set_option maxRecDepth 100000 in
set_option maxHeartbeats 2000000 in
theorem describe_any (cs : List Col) (v : Value) (key : Int) (x : Value) (l : List Rc) (W : World) (hr : RdC W W.heap.size v cs) (hx : RdR W W.heap.size x l) (hc : chkS cs key = 0) (hl : l.length ≤ 1024) (h0 : l.length ≠ 0) (ho : ∀ r ∈ l, okRec cs r = true) :
    Calls Tryz.prog 39 #[.agg #[v, .int .i64 key], x] W (InfP (infOf cs key l) W) := by
  obtain ⟨c0, c12, -, k0, k1⟩ := chkS_ok hc
  obtain ⟨xA, xc, xn, rfl, hxn, hxc, hxm⟩ := hx.bds
  have HXN := Lib.hid hxn
  have HR := Lib.hid hr; have HX := Lib.hid hx
  have HLN := Lib.hid (show l.length ≤ 1024 from hl)
  have HCH := Lib.hid hc
  have HV := Lib.hid (Var2.new W v (.int .i64 key) 24)
  have HB0 := Lib.hid ((Below.refl W.heap.size W).alloc (Nat.le_refl _) (.cells #[v, .int .i64 key] 24))
  have HS0 := Lib.hid (show (W.alloc (.cells #[v, .int .i64 key] 24)).heap.size = W.heap.size + 1 from by simp)
  have HL0 := Lib.hid h0; have HOK := Lib.hid ho
  obtain ⟨A, cc, rfl, hcc, hcm, hrr⟩ := hr
  generalize hm : cs.length = m at *
  unfold maxLen at hcm
  have HM := Lib.hid hm
  have HRR := Lib.hid hrr
  obtain ⟨W1, hW1⟩ : ∃ W1, W.alloc (.cells #[.slice A m cc, .int .i64 key] 24) = W1 := ⟨_, rfl⟩
  rw [hW1] at HV HB0 HS0
  have hw1 := HS0.out
  -- the result's cell
  have HI := VarC.new W1 [.int .i64 0, .slice none 0 0, .bool false, .int .i64 0, .string ⟨#[]⟩, .int .i64 0, .bool false, .int .i64 0, .string ⟨#[]⟩, .int .i64 0] 53
  obtain ⟨W2, hW2⟩ : ∃ W2, W1.alloc (.cells #[.int .i64 0, .slice none 0 0, .bool false, .int .i64 0, .string ⟨#[]⟩, .int .i64 0, .bool false, .int .i64 0, .string ⟨#[]⟩, .int .i64 0] 53) = W2 := ⟨_, rfl⟩
  have hw2 : W2.heap.size = W.heap.size + 2 := by rw [← hW2]; simp [hw1]
  have hb12 : Below W1.heap.size W1 W2 := by rw [← hW2]; exact (Below.refl _ _).alloc (Nat.le_refl _) _
  change VarC (W1.alloc (.cells #[.int .i64 0, .slice none 0 0, .bool false, .int .i64 0, .string ⟨#[]⟩, .int .i64 0, .bool false, .int .i64 0, .string ⟨#[]⟩, .int .i64 0] 53)) _ _ at HI
  rw [hW2] at HI
  have HI2 := Lib.hid HI
  have HV2 := Lib.hid (HV.out.below hb12 (by omega))
  have HB2 := Lib.hid (HB0.out.trans (hb12.mono (by omega)))
  clear HI HV HB0 hb12
  -- the zones' row
  have hmk := run_makeK (P := Tryz.prog) (L := zonL) Tryz.underlying47 Tryz.infZon m (by omega) (by unfold maxLen; omega) W2
  have hrow := RowK.made zonL 59 W2 (W.heap.size + 2) m (by omega) (by unfold maxLen; omega)
  have hb23 : Below W2.heap.size W2 (W2.alloc (.cells (madeCells zonL.zv.cells (m * zonL.K)) 59)) := (Below.refl _ _).alloc (Nat.le_refl _) _
  have hw3 : (W2.alloc (.cells (madeCells zonL.zv.cells (m * zonL.K)) 59)).heap.size = W.heap.size + 3 := by simp [hw2]
  generalize W2.alloc (.cells (madeCells zonL.zv.cells (m * zonL.K)) 59) = W3 at hmk hrow hb23 hw3
  rw [hw2] at hmk hrow
  have HV3 := Lib.hid (HV2.out.below hb23 (by omega))
  have HI3 := Lib.hid (HI2.out.below hb23 (by omega))
  have HB3 := Lib.hid (HB2.out.trans (hb23.mono (by omega)))
  have HROW := Lib.hid hrow
  have HBC := Lib.hid (bcols_own _ l m W3 (HX.out.step HB3.out) (by have := HLN.out; omega))
  obtain ⟨v0, v1, -, -⟩ := id HV2.out
  obtain ⟨v30, v31, -, -⟩ := id HV3.out
  clear hc ho hl hx hm h0 hrr hrow hb23 HV2 HI2 HB2 hxn
  go_enter Tryz.func39, Tryz.ntmps39
  go_wp2_with fail
  (with_reducible refine HBC.out.mono ?_); rintro e w4 ⟨u, ps, rfl, hown, hdeep, hb4⟩
  obtain ⟨uA, uc, un, rfl, hun, -, -⟩ := hown.read.bds
  rw [colsL_in (by omega) c12] at hdeep
  have hpl := hdeep.1
  rw [List.length_map, List.length_range] at hpl
  obtain rfl : m = un := by rw [hun, hpl]
  have hw4 := hb4.size
  have HROW4 := Lib.hid (HROW.out.below hb4)
  have HO4 := Lib.hid hown; have HD4 := Lib.hid hdeep
  have HV4 := Lib.hid (HV3.out.below hb4 (by omega))
  have HI4 := Lib.hid (HI3.out.below hb4 (by omega))
  have HB4 := Lib.hid (HB3.out.trans (hb4.mono (by omega)))
  have HPL := Lib.hid hpl
  have hb3s : W.heap.size + 3 ≤ w4.heap.size := by omega
  have HOW := Lib.hid (fun (j : Nat) (h : j < m) => (HRR.out j h))
  clear hown hdeep hb4 hmk HBC HROW HV3 HI3 HB3 hpl hun v0 v1 v30 v31
  go_wp2_with fail
  go_loopw [6, 7, 18] (fun _ _ iv wr => ∃ (j : Nat) (t : List Zn), iv = .int .i64 j ∧ j ≤ m ∧ RowK zonL 59 wr (W.heap.size + 2) (W.heap.size + 2) m t ∧ Hid (t.length = m) ∧ Hid (t = zns cs l j ++ List.replicate (m - j) zn0) ∧ Hid (OwnV Sl.val 63 wr W3.heap.size (.slice uA m uc) ps) ∧ Hid (DeepLO 49 wr W3.heap.size ps ((List.range m).map fun c => Go.RS.colL c l)) ∧ Below (W.heap.size + 2) w4 wr) (fun _ _ iv _ => m - (intOf iv).toNat)
  case atStart => exact ⟨0, _, rfl, Nat.zero_le _, HROW4.out, Lib.hid List.length_replicate, Lib.hid rfl, HO4, HD4, Below.refl _ _⟩
  case round =>
    clear HROW4 HO4 HD4
    obtain ⟨j, t, rfl, hj, hrw, HL, HT, HO, HD, hbel⟩ := hrel
    have hbW : Below W.heap.size W wr := HB4.out.trans (hbel.mono (by omega))
    have hws := hbel.size
    have HVX := Lib.hid (HV4.out.below hbel (by omega))
    have HIX := Lib.hid (HI4.out.below hbel (by omega))
    obtain ⟨v0, v1, -, -⟩ := id HVX.out
    by_cases hlt : j < m
    case neg =>
      obtain rfl : m = j := by omega
      have hd0 : decide ((m : Int) < (m : Int)) = false := decide_eq_false (by omega)
      have HF := Lib.hid (show t = zns cs l m by rw [HT.out, Nat.sub_self, List.replicate_zero, List.append_nil])
      have HOZ := Lib.hid (hrw.own_at HL.out HF.out)
      obtain ⟨p, hp⟩ : ∃ p, xn = p + 1 := ⟨xn - 1, by have := HL0.out; have := HXN.out; omega⟩
      obtain ⟨f1, f2⟩ := rc_first HL0.out
      obtain ⟨g1, g2⟩ := rc_last HL0.out
      rw [show l.length - 1 = p by rw [← HXN.out]; omega] at g1 g2
      have o0 := HOK.out _ f1
      have o1 := HOK.out _ g1
      have hinf : infOf cs key l = ⟨xn, zns cs l m, keyV key.toNat (l.getD 0 rc0), (l.getD 0 rc0).seq.toNat, keyV key.toNat (l.getD p rc0), (l.getD p rc0).seq.toNat⟩ := by
        unfold infOf; rw [HM.out, ← HXN.out, show xn - 1 = p by omega]
      obtain ⟨a0, rA0, rn0, rc0', rfl, ha0, p0, p1, -, hr0⟩ := (HX.out.below hbW).at f2
      obtain ⟨a1, rA1, rn1, rc1', hA1, ha1, p2, p3, -, hr1⟩ := (HX.out.below hbW).at g2
      cases hA1
      generalize l.getD 0 rc0 = R0 at *
      generalize l.getD p rc0 = R1 at *
      have hq0 := okRec_all o0
      have hq1 := okRec_all o1
      have hl0 := chkRow_zero hq0.2.2
      have hl1 := chkRow_zero hq1.2.2
      have HK0 := fun (w : World) (h : Below wr.heap.size wr w) => Lib.hid (brk_at cs (.slice A m cc) key R0 (.slice rA0 rn0 rc0') w (((HR.out.below hbW).more hbW.size).step h) ((hr0.more hbW.size).step h) k0 (by rw [hl0, HM.out]; omega))
      have HK1 := fun (w : World) (h : Below wr.heap.size wr w) => Lib.hid (brk_at cs (.slice A m cc) key R1 (.slice rA1 rn1 rc1') w (((HR.out.below hbW).more hbW.size).step h) ((hr1.more hbW.size).step h) k0 (by rw [hl1, HM.out]; omega))
      have hs0 : ((R0.seq.toNat : Nat) : Int) = R0.seq := by omega
      have hs1 : ((R1.seq.toNat : Nat) : Int) = R1.seq := by omega
      have hEQ : infV (.slice (some ⟨W.heap.size + 2, 0, none⟩) m m) (infOf cs key l) = .agg #[.int .i64 (xn : Int), .slice (some ⟨W.heap.size + 2, 0, none⟩) m m, .bool (keyV key.toNat R0).nu, .int .i64 (keyV key.toNat R0).n, .string (keyV key.toNat R0).s, .int .i64 R0.seq, .bool (keyV key.toNat R1).nu, .int .i64 (keyV key.toNat R1).n, .string (keyV key.toNat R1).s, .int .i64 R1.seq] := by
        rw [hinf]; unfold infV; simp only; rw [hs0, hs1]
      have hzs : (infOf cs key l).zs = zns cs l m := by rw [hinf]
      have HZS := Lib.hid hzs
      generalize keyV key.toNat R0 = V0 at *
      generalize keyV key.toNat R1 = V1 at *
      obtain ⟨b0, i0, s0⟩ := V0
      obtain ⟨b1, i1, s1⟩ := V1
      obtain ⟨q0, row0⟩ := R0
      obtain ⟨q1, row1⟩ := R1
      simp only at p0 p1 p2 p3 hEQ
      have HEQ := Lib.hid hEQ
      have hwp : wrap64 ((xn : Int) - 1) = (p : Int) := by unfold wrap64; omega
      have hi0 : (0 : Int) < (xn : Int) := by omega
      have hi0' : 0 < xn := by omega
      have hi1 : (p : Int) < (xn : Int) := by omega
      have hi1' : p < xn := by omega
      have HXP := Lib.hid hp
      rw [Nat.zero_mul, show a0.add 0 = a0 from by unfold Addr.add; simp] at p0 p1
      rw [show p = xn - 1 by omega] at p2 p3
      have HVV := Lib.hid (fun (w : World) (h : Below wr.heap.size wr w) => show (w.cell? a0 = some (.int .i64 q0) ∧ w.cell? ⟨a0.block, a0.off + 1, none⟩ = some (.slice rA0 rn0 rc0') ∧ w.cell? (a0.add ((xn - 1) * 2)) = some (.int .i64 q1) ∧ w.cell? ⟨(a0.add ((xn - 1) * 2)).block, (a0.add ((xn - 1) * 2)).off + 1, none⟩ = some (.slice rA1 rn1 rc1')) ∧ (w.cell? ⟨W.heap.size, 0, none⟩ = some (.slice A m cc) ∧ w.cell? ⟨W.heap.size, 1, none⟩ = some (.int .i64 key)) from
        have hB : a0.block < wr.heap.size := by have := hbW.size; omega
        have hB2 : (a0.add ((xn - 1) * 2)).block < wr.heap.size := by rw [block_add]; exact hB
        ⟨⟨by rw [h.cell hB]; exact p0, by rw [h.cell (p := ⟨a0.block, _, none⟩) hB]; exact p1, by rw [h.cell hB2]; exact p2, by rw [h.cell (p := ⟨(a0.add ((xn - 1) * 2)).block, _, none⟩) hB2]; exact p3⟩, ⟨(HVX.out.step h).c0, (HVX.out.step h).c1⟩⟩)
      clear hp f1 f2 g1 g2 o0 o1 hinf hq0 hq1 hl0 hl1 hs0 hs1 hEQ hzs hr0 hr1 p0 p1 p2 p3 HO HD hrw HT ha0 ha1
      go_wp2_with fail
      refine Go.ConflA.wp_region_tail_at 17 (by simp only [List.take_succ_cons, List.take_zero, List.map_cons, List.map_nil]; rfl) (by kernel_rfl) (by kernel_rfl) (by kernel_rfl) (by kernel_rfl) (by kernel_rfl) (Nat.zero_lt_succ _) (by kernel_rfl) ?_
      simp only [List.take_succ_cons, List.take_zero, List.drop_succ_cons, List.drop_zero]
      iterate 17
        first
        | (refine Go.ConflA.chainA_skip (Go.Confl.unwanted_is rfl rfl) ?_)
        | (first | apply Go.ConflA.chainA_is _ (Go.Confl.wanted_none rfl) | apply Go.ConflA.chainA_is _ (Go.Confl.wanted_is rfl rfl)
           · intro b w hr hb K hK
             simp [Go.Confl.readFacts, Go.Confl.tmpsOf, Go.Confl.writerOf, Go.Confl.Is, Op.operands, Call.operands, List.findIdx?, List.findIdx?.go] at hr
             obtain ⟨⟨y0, y1, y2, y3⟩, ⟨y4, y5⟩⟩ := HVV.out _ hb
             go_wp2_with (first
               | (go_at_call 87; (with_reducible refine (HK0 _ hb).out.mono ?_); rintro e w' ⟨rfl, hb'⟩)
               | (go_at_call 87; (with_reducible refine (HK1 _ hb).out.mono ?_); rintro e w' ⟨rfl, hb'⟩)
               | fail)
             try (simp only [hr]; go_wp2)
             exact hK _ _ rfl (by first | exact Below.refl _ _ | assumption))
        simp only [List.nil_append, List.cons_append]
      intro us w hp hdist hb
      simp [Go.Confl.allPosts, Go.Confl.Is] at hp
      simp only [Go.Confl.putsFrom, Act.put, List.setIfInBounds_toArray, List.set_cons_zero, List.set_cons_succ]
      change wpList _ _ _ _ _ _
      obtain ⟨e0, e1, e2, e3, e4, e5, e6, e7, e8, e9, e10, e11, e12, e13, e14, e15, e16⟩ := hp
      simp only [e0, e1, e2, e3, e4, e5, e6, e7, e8, e9, e10, e11, e12, e13, e14, e15, e16]
      clear e0 e1 e2 e3 e4 e5 e6 e7 e8 e9 e10 e11 e12 e13 e14 e15 e16 hdist
      have hVI := HIX.out.step hb
      rw [hw1] at hVI
      have k0' := hVI.c 0 _ rfl
      have z0 := hVI.fr 0 (by decide)
      have k1' := hVI.c 1 _ rfl
      have z1 := hVI.fr 1 (by decide)
      have k2' := hVI.c 2 _ rfl
      have z2 := hVI.fr 2 (by decide)
      have k3' := hVI.c 3 _ rfl
      have z3 := hVI.fr 3 (by decide)
      have k4' := hVI.c 4 _ rfl
      have z4 := hVI.fr 4 (by decide)
      have k5' := hVI.c 5 _ rfl
      have z5 := hVI.fr 5 (by decide)
      have k6' := hVI.c 6 _ rfl
      have z6 := hVI.fr 6 (by decide)
      have k7' := hVI.c 7 _ rfl
      have z7 := hVI.fr 7 (by decide)
      have k8' := hVI.c 8 _ rfl
      have z8 := hVI.fr 8 (by decide)
      have k9' := hVI.c 9 _ rfl
      have z9 := hVI.fr 9 (by decide)
      have hPI := hVI.putC [.int .i64 (xn : Int), .slice (some ⟨W.heap.size + 2, 0, none⟩) m m, .bool b0, .int .i64 i0, .string s0, .int .i64 q0, .bool b1, .int .i64 i1, .string s1, .int .i64 q1] 0 (Nat.le_refl 10)
      have hbP := putC_below (g := W.heap.size + 1) [.int .i64 (xn : Int), .slice (some ⟨W.heap.size + 2, 0, none⟩) m m, .bool b0, .int .i64 i0, .string s0, .int .i64 q0, .bool b1, .int .i64 i1, .string s1, .int .i64 q1] 0 (hbW.trans (hb.mono (by omega))) (by omega)
      obtain ⟨X, hX⟩ : ∃ X, putC w (W.heap.size + 1) 0 [.int .i64 (xn : Int), .slice (some ⟨W.heap.size + 2, 0, none⟩) m m, .bool b0, .int .i64 i0, .string s0, .int .i64 q0, .bool b1, .int .i64 i1, .string s1, .int .i64 q1] = X := ⟨_, rfl⟩
      rw [hX] at hPI hbP
      have hX10 : ((((((((((w.setCell ⟨W.heap.size + 1, 0, none⟩ (.int .i64 (xn : Int))).setCell ⟨W.heap.size + 1, 1, none⟩ (.slice (some ⟨W.heap.size + 2, 0, none⟩) m m)).setCell ⟨W.heap.size + 1, 2, none⟩ (.bool b0)).setCell ⟨W.heap.size + 1, 3, none⟩ (.int .i64 i0)).setCell ⟨W.heap.size + 1, 4, none⟩ (.string s0)).setCell ⟨W.heap.size + 1, 5, none⟩ (.int .i64 q0)).setCell ⟨W.heap.size + 1, 6, none⟩ (.bool b1)).setCell ⟨W.heap.size + 1, 7, none⟩ (.int .i64 i1)).setCell ⟨W.heap.size + 1, 8, none⟩ (.string s1)).setCell ⟨W.heap.size + 1, 9, none⟩ (.int .i64 q1)) = X := hX
      have HPI := Lib.hid hPI; have HBP := Lib.hid hbP
      have hOX : OwnK zonL 59 _ (W.heap.size + 2) _ (zns cs l m) := own_oputC (g := W.heap.size + 1) (by omega) [.int .i64 (xn : Int), .slice (some ⟨W.heap.size + 2, 0, none⟩) m m, .bool b0, .int .i64 i0, .string s0, .int .i64 q0, .bool b1, .int .i64 i1, .string s1, .int .i64 q1] 0 (HOZ.out.below hb)
      rw [hX] at hOX
      have HRX := Lib.hid hOX.read
      clear hX hPI hbP hVI hOX
      obtain ⟨m0, m1, m2, m3, m4, m5, m6, m7, m8, m9⟩ : X.cell? ⟨W.heap.size + 1, 0, none⟩ = some (.int .i64 (xn : Int)) ∧ X.cell? ⟨W.heap.size + 1, 1, none⟩ = some (.slice (some ⟨W.heap.size + 2, 0, none⟩) m m) ∧ X.cell? ⟨W.heap.size + 1, 2, none⟩ = some (.bool b0) ∧ X.cell? ⟨W.heap.size + 1, 3, none⟩ = some (.int .i64 i0) ∧ X.cell? ⟨W.heap.size + 1, 4, none⟩ = some (.string s0) ∧ X.cell? ⟨W.heap.size + 1, 5, none⟩ = some (.int .i64 q0) ∧ X.cell? ⟨W.heap.size + 1, 6, none⟩ = some (.bool b1) ∧ X.cell? ⟨W.heap.size + 1, 7, none⟩ = some (.int .i64 i1) ∧ X.cell? ⟨W.heap.size + 1, 8, none⟩ = some (.string s1) ∧ X.cell? ⟨W.heap.size + 1, 9, none⟩ = some (.int .i64 q1) :=
        ⟨HPI.out.c 0 _ rfl, HPI.out.c 1 _ rfl, HPI.out.c 2 _ rfl, HPI.out.c 3 _ rfl, HPI.out.c 4 _ rfl, HPI.out.c 5 _ rfl, HPI.out.c 6 _ rfl, HPI.out.c 7 _ rfl, HPI.out.c 8 _ rfl, HPI.out.c 9 _ rfl⟩
      go_wp2_with fail
      refine bodyPost_ret (v := .agg #[.int .i64 (xn : Int), .slice (some ⟨W.heap.size + 2, 0, none⟩) m m, .bool b0, .int .i64 i0, .string s0, .int .i64 q0, .bool b1, .int .i64 i1, .string s1, .int .i64 q1]) (by simp [results, Tryz.results39, go_sem, m0, m1, m2, m3, m4, m5, m6, m7, m8, m9]) rfl ?_
      exact ⟨_, by rw [HEQ.out], by rw [HZS.out]; exact HRX.out, HBP.out⟩
    have hd0 : decide ((j : Int) < (m : Int)) = true := decide_eq_true (by omega)
    have hd0' : decide (j < m) = true := decide_eq_true hlt
    have hpj : ps[j]? = some (ps[j]'(by rw [HPL.out]; exact hlt)) := List.getElem?_eq_getElem _
    have hcj : ((List.range m).map fun c => Go.RS.colL c l)[j]? = some (Go.RS.colL j l) := by rw [List.getElem?_map, List.getElem?_range hlt]; rfl
    obtain ⟨ad, hvA, hab, k0⟩ := HO.out.read.at hpj
    have hrl := (HD.out.read).2 j _ _ hpj hcj
    generalize ps[j]'_ = P at k0 hrl
    obtain ⟨pA, pn, pc⟩ := P
    subst hvA
    change wr.cell? (ad.add j) = some (Value.slice pA pn pc) at k0
    change RdL wr wr.heap.size (Value.slice pA pn pc) _ at hrl
    obtain ⟨ad2, rfl, hab2, hat⟩ := HRR.out j hlt
    obtain ⟨q0, q1, q2, q3⟩ := hat.below hbW hab2
    obtain ⟨T, hT⟩ : ∃ T, cs.getD j col0 = T := ⟨_, rfl⟩
    have HSN := Lib.hid (zn_fill (x := zof (cs.getD j col0).ty (Go.RS.colL j l)) HT.out hlt rfl)
    have hz := zn_at HT.out hlt
    rw [hT] at q0 q1 q2 q3 HSN
    obtain ⟨tn, tt, ts, tu⟩ := T
    simp only at q0 q1 q2 q3 HSN
    have hZ0 := zof_any tt _ _ wr hrl
    have HRW := Lib.hid hrw; have HBL := Lib.hid hbel
    have hlt64 : (j : Int) < (m : Int) := by omega
    clear hpj hcj hrl hT hat hrw hbel HT
    generalize zof tt (Go.RS.colL j l) = z at *
    obtain ⟨zr, zu, ⟨zb, zi, zt⟩, ⟨xb, xi, xt⟩⟩ := z
    have HZ := Lib.hid (show Calls Tryz.prog 86 #[.int .i64 tt, .slice pA pn pc] wr (RetB (.agg #[.int .i64 zr, .int .i64 zu, .bool zb, .int .i64 zi, .string zt, .bool xb, .int .i64 xi, .string xt]) wr) from hZ0)
    clear hZ0
    go_wp2_with fail
    (with_reducible refine HZ.out.mono ?_); rintro e w6 ⟨rfl, hb6⟩
    have hr6 := HRW.out.below hb6
    have y0 := hr6.at hz 0 rfl
    have y1 := hr6.at hz 1 rfl
    have y2 := hr6.at hz 2 rfl
    have y3 := hr6.at hz 3 rfl
    have y4 := hr6.at hz 4 rfl
    have y5 := hr6.at hz 5 rfl
    have y6 := hr6.at hz 6 rfl
    have y7 := hr6.at hz 7 rfl
    have f0 := hr6.frozen (j * 8)
    have f1 := hr6.frozen (j * 8 + 1)
    have f2 := hr6.frozen (j * 8 + 2)
    have f3 := hr6.frozen (j * 8 + 3)
    have f4 := hr6.frozen (j * 8 + 4)
    have f5 := hr6.frozen (j * 8 + 5)
    have f6 := hr6.frozen (j * 8 + 6)
    have f7 := hr6.frozen (j * 8 + 7)
    change w6.cell? ⟨_, j * 8, none⟩ = some (Value.int .i64 0) at y0
    change w6.cell? ⟨_, j * 8 + 1, none⟩ = some (Value.int .i64 0) at y1
    change w6.cell? ⟨_, j * 8 + 2, none⟩ = some (Value.bool false) at y2
    change w6.cell? ⟨_, j * 8 + 3, none⟩ = some (Value.int .i64 0) at y3
    change w6.cell? ⟨_, j * 8 + 4, none⟩ = some (Value.string ⟨#[]⟩) at y4
    change w6.cell? ⟨_, j * 8 + 5, none⟩ = some (Value.bool false) at y5
    change w6.cell? ⟨_, j * 8 + 6, none⟩ = some (Value.int .i64 0) at y6
    change w6.cell? ⟨_, j * 8 + 7, none⟩ = some (Value.string ⟨#[]⟩) at y7
    have hs6 := hb6.size
    have hrn := hr6.put j (by rw [HL.out]; exact hlt) ⟨zr, zu, ⟨zb, zi, zt⟩, ⟨xb, xi, xt⟩⟩
    have hon : OwnV Sl.val 63 _ W3.heap.size _ ps := own_oputC (g := W.heap.size + 2) (by omega) (zonL.cs ⟨zr, zu, ⟨zb, zi, zt⟩, ⟨xb, xi, xt⟩⟩) (j * zonL.K) (HO.out.below hb6)
    have hdn := deep_oputC (g := W.heap.size + 2) (by omega) (zonL.cs ⟨zr, zu, ⟨zb, zi, zt⟩, ⟨xb, xi, xt⟩⟩) (j * zonL.K) (HD.out.below hb6)
    have hbn := putC_below (g := W.heap.size + 2) (zonL.cs ⟨zr, zu, ⟨zb, zi, zt⟩, ⟨xb, xi, xt⟩⟩) (j * zonL.K) (HBL.out.trans (hb6.mono (by omega))) (Nat.le_refl _)
    obtain ⟨X, hX⟩ : ∃ X, putC w6 (W.heap.size + 2) (j * zonL.K) (zonL.cs ⟨zr, zu, ⟨zb, zi, zt⟩, ⟨xb, xi, xt⟩⟩) = X := ⟨_, rfl⟩
    rw [hX] at hrn hon hdn hbn
    have hX8 : (((((((w6.setCell ⟨W.heap.size + 2, j * 8, none⟩ (.int .i64 zr)).setCell ⟨W.heap.size + 2, j * 8 + 1, none⟩ (.int .i64 zu)).setCell ⟨W.heap.size + 2, j * 8 + 2, none⟩ (.bool zb)).setCell ⟨W.heap.size + 2, j * 8 + 3, none⟩ (.int .i64 zi)).setCell ⟨W.heap.size + 2, j * 8 + 4, none⟩ (.string zt)).setCell ⟨W.heap.size + 2, j * 8 + 5, none⟩ (.bool xb)).setCell ⟨W.heap.size + 2, j * 8 + 6, none⟩ (.int .i64 xi)).setCell ⟨W.heap.size + 2, j * 8 + 7, none⟩ (.string xt) = X := hX
    have HRN := Lib.hid hrn; have HON := Lib.hid hon; have HDN := Lib.hid hdn; have HBN := Lib.hid hbn
    clear hr6 hb6 HO HD HRW HBL HZ hrn hon hdn hbn hX
    go_wp2_with fail
    go_roundw
    case rel => exact ⟨j + 1, _, by go_num, hlt, HRN.out, Lib.hid (by rw [List.length_set]; exact HL.out), HSN, HON, HDN, HBN.out⟩
    case measure => simp [intOf]; omega
end Go.Proofs.YtnmlajmaffiigaaGreatDoor

namespace Go.MP
open Go.RowKit Go.VB Go.VarM Go.VS Go.VL Go.CK Go.RS Go.SC Go.MK Go.ZN
theorem lens_take {ch : List (List UInt8)} {j : Nat} {b : List UInt8} (h : ch[j]? = some b) : lensB (ch.take (j + 1)) = lensB (ch.take j) ++ putL b.length := by
  rw [List.take_add_one, h]; exact lensB_snoc _ _
theorem zns_take {zs : List Zn} {j : Nat} {z : Zn} (h : zs[j]? = some z) : znsB (zs.take (j + 1)) = znsB (zs.take j) ++ putZ z := by
  rw [List.take_add_one, h]; exact znsB_snoc _ _
/-- The footer's beginnings. -/
def ftL (id : Nat) (ch : List (List UInt8)) (f : Inf) (j : Nat) : List UInt8 := four id ++ putL f.rows ++ lensB (ch.take j)
def ftZ (id : Nat) (ch : List (List UInt8)) (f : Inf) (j : Nat) : List UInt8 := four id ++ putL f.rows ++ lensB ch ++ znsB (f.zs.take j)
theorem ftL_zero (id : Nat) (ch : List (List UInt8)) (f : Inf) : ftL id ch f 0 = four id ++ putL f.rows := by unfold ftL; rw [List.take_zero]; exact List.append_nil _
theorem ftL_step {ch : List (List UInt8)} {j : Nat} {b : List UInt8} (id : Nat) (f : Inf) (h : ch[j]? = some b) : ftL id ch f (j + 1) = ftL id ch f j ++ putL b.length := by unfold ftL; rw [lens_take h, List.append_assoc _ _ (putL b.length)]
theorem ftZ_zero (id : Nat) (ch : List (List UInt8)) (f : Inf) : ftZ id ch f 0 = ftL id ch f ch.length := by unfold ftZ ftL; rw [List.take_zero, List.take_length]; exact List.append_nil _
theorem ftZ_step {f : Inf} {j : Nat} {z : Zn} (id : Nat) (ch : List (List UInt8)) (h : f.zs[j]? = some z) : ftZ id ch f (j + 1) = ftZ id ch f j ++ putZ z := by unfold ftZ; rw [zns_take h, List.append_assoc _ _ (putZ z)]
theorem ftZ_full (id : Nat) (ch : List (List UInt8)) (f : Inf) : footB id ch f = ftZ id ch f f.zs.length ++ (putK f.lo f.lq ++ putK f.hi f.hq) := by unfold ftZ footB; rw [List.take_length]
theorem ftL_le {m : Nat} {ch : List (List UInt8)} {f : Inf} (h : IBd m ch f) (h12 : m ≤ 12) (id j : Nat) : (ftL id ch f j).length ≤ 200 := by
  have l1 := putL_len10 (n := f.rows) (by have := h.n; omega)
  have l2 : (lensB (ch.take j)).length ≤ (ch.take j).length * 10 := fmap_le fun b hb => putL_len10 (by have := h.lens b (List.mem_of_mem_take hb); omega)
  have l3 : (ch.take j).length ≤ ch.length := by rw [List.length_take]; omega
  rw [h.cl] at l3
  unfold ftL
  simp only [List.length_append, four_len]
  omega
theorem ftZ_le {m : Nat} {ch : List (List UInt8)} {f : Inf} (h : IBd m ch f) (h12 : m ≤ 12) (id j : Nat) : (ftZ id ch f j).length ≤ 3000 := by
  have l1 := putL_len10 (n := f.rows) (by have := h.n; omega)
  have l2 : (lensB ch).length ≤ ch.length * 10 := fmap_le fun b hb => putL_len10 (by have := h.lens b hb; omega)
  have l3 : (znsB (f.zs.take j)).length ≤ (f.zs.take j).length * 190 := fmap_le fun z hz => (h.zs z (List.mem_of_mem_take hz)).len
  have l4 : (f.zs.take j).length ≤ f.zs.length := by rw [List.length_take]; omega
  rw [h.cl] at l2
  rw [h.zl] at l4
  unfold ftZ
  simp only [List.length_append, four_len]
  omega
end Go.MP
namespace Go.Proofs.YtnmlajmaffiigaaGreatDoor
open Go.RowKit Go.VB Go.VarM Go.BP Go.VS Go.VL Go.SC Go.CK Go.ST Go.MK Go.RS Go.ZN Go.MP Go.RL Go.CR
set_option linter.constructorNameAsVariable false
theorem zput_at (z : Zn) (w : World) (h : ZBd z) : Calls Tryz.prog 84 #[z.val] w (RetB (.string (str (putZ z))) w) :=
  zput_any z.rows z.nulls z.mn.nu z.mn.n z.mn.s z.mx.nu z.mx.n z.mx.s w (Go.MP.wf_bd ⟨by have := h.r0; omega, by have := h.r1; omega⟩) (Go.MP.wf_bd ⟨by have := h.u0; omega, by have := h.u1; omega⟩) (Go.MP.wf_bd h.mi) (Go.MP.wf_bd h.xi) (by have := h.ms; omega) (by have := h.xs; omega)
set_option maxRecDepth 100000 in
set_option maxHeartbeats 2000000 in
theorem pfoot_any (id m : Nat) (f : Inf) (zv cv : Value) (ch : List (List UInt8)) (W : World) (hid : id < 4294967296) (hz : RdK zonL W W.heap.size zv f.zs) (hc : RdV Value.string W W.heap.size cv (chT ch)) (hI : IBd m ch f) (h12 : m ≤ 12) :
    Calls Tryz.prog 38 #[.int .u32 (id : Int), .agg #[.int .i64 (f.rows : Nat), zv, .bool f.lo.nu, .int .i64 f.lo.n, .string f.lo.s, .int .i64 (f.lq : Nat), .bool f.hi.nu, .int .i64 f.hi.n, .string f.hi.s, .int .i64 (f.hq : Nat), cv]] W (RetB (.string (str (sealB (footB id ch f)))) W) := by
  obtain ⟨zA, zc, zn, rfl, hzn, hzc, hzm⟩ := hz.bds
  obtain ⟨cA, cc, cn, rfl, hcn, hcc, hcm⟩ := hc.bds
  rw [chT_len, hI.cl] at hcn
  rw [hI.zl] at hzn
  subst hzn
  have HCN := Lib.hid hcn
  have HZ := Lib.hid hz; have HC := Lib.hid hc; have HI := Lib.hid hI
  have LL := Lib.hid (fun j => ftL_le hI h12 id j)
  have LZ := Lib.hid (fun j => ftZ_le hI h12 id j)
  have HFL := Lib.hid (ftL_zero id ch f)
  have HLS := Lib.hid (fun (j : Nat) (b : List UInt8) (h : ch[j]? = some b) => ftL_step id f h)
  have HFZ := Lib.hid (show ftZ id ch f 0 = ftL id ch f cn by rw [ftZ_zero, hI.cl, hcn])
  have hcn13 : cn ≤ 13 := by omega
  clear hcn
  have HZS := Lib.hid (fun (j : Nat) (z : Zn) (h : f.zs[j]? = some z) => ftZ_step id ch h)
  have HFF := Lib.hid (show footB id ch f = ftZ id ch f zn ++ (putK f.lo f.lq ++ putK f.hi f.hq) by rw [ftZ_full, hI.zl])
  have HFB := Lib.hid (body_len hI h12 id)
  have HW1 := fun w => Lib.hid (pword_any id w hid)
  have HP1 := fun w => Lib.hid (vput_any f.rows w (by have := hI.n; omega))
  have hu1 : IntKind.u64.wrap (f.rows : Int) = (f.rows : Int) := IntWalk.u64_in _ ⟨by omega, by have := hI.n; omega⟩
  have l1 := putL_len10 (n := f.rows) (by have := hI.n; omega)
  have a1 := Go.SC.add_str (P := Tryz.prog) (four id) (putL f.rows) (by rw [four_len]; omega)
  rw [← HFL.out] at a1
  have hV := VarC.new W [.int .i64 (f.rows : Nat), .slice zA zn zc, .bool f.lo.nu, .int .i64 f.lo.n, .string f.lo.s, .int .i64 (f.lq : Nat), .bool f.hi.nu, .int .i64 f.hi.n, .string f.hi.s, .int .i64 (f.hq : Nat), .slice cA cn cc] 87
  have hB := (Below.refl W.heap.size W).alloc (Nat.le_refl _) (.cells #[.int .i64 (f.rows : Nat), .slice zA zn zc, .bool f.lo.nu, .int .i64 f.lo.n, .string f.lo.s, .int .i64 (f.lq : Nat), .bool f.hi.nu, .int .i64 f.hi.n, .string f.hi.s, .int .i64 (f.hq : Nat), .slice cA cn cc] 87)
  obtain ⟨X, hX⟩ : ∃ X, W.alloc (.cells #[.int .i64 (f.rows : Nat), .slice zA zn zc, .bool f.lo.nu, .int .i64 f.lo.n, .string f.lo.s, .int .i64 (f.lq : Nat), .bool f.hi.nu, .int .i64 f.hi.n, .string f.hi.s, .int .i64 (f.hq : Nat), .slice cA cn cc] 87) = X := ⟨_, rfl⟩
  change VarC (W.alloc (.cells #[.int .i64 (f.rows : Nat), .slice zA zn zc, .bool f.lo.nu, .int .i64 f.lo.n, .string f.lo.s, .int .i64 (f.lq : Nat), .bool f.hi.nu, .int .i64 f.hi.n, .string f.hi.s, .int .i64 (f.hq : Nat), .slice cA cn cc] 87)) _ _ at hV
  rw [hX] at hV hB
  have HB := Lib.hid hB
  have HVV := Lib.hid (fun (w : World) (h : Below X.heap.size X w) => show w.cell? ⟨W.heap.size, 0, none⟩ = some (.int .i64 (f.rows : Int)) ∧ w.cell? ⟨W.heap.size, 1, none⟩ = some (.slice zA zn zc) ∧ w.cell? ⟨W.heap.size, 2, none⟩ = some (.bool f.lo.nu) ∧ w.cell? ⟨W.heap.size, 3, none⟩ = some (.int .i64 f.lo.n) ∧ w.cell? ⟨W.heap.size, 4, none⟩ = some (.string f.lo.s) ∧ w.cell? ⟨W.heap.size, 5, none⟩ = some (.int .i64 (f.lq : Int)) ∧ w.cell? ⟨W.heap.size, 6, none⟩ = some (.bool f.hi.nu) ∧ w.cell? ⟨W.heap.size, 7, none⟩ = some (.int .i64 f.hi.n) ∧ w.cell? ⟨W.heap.size, 8, none⟩ = some (.string f.hi.s) ∧ w.cell? ⟨W.heap.size, 9, none⟩ = some (.int .i64 (f.hq : Int)) ∧ w.cell? ⟨W.heap.size, 10, none⟩ = some (.slice cA cn cc) from ⟨(hV.step h).c 0 _ rfl, (hV.step h).c 1 _ rfl, (hV.step h).c 2 _ rfl, (hV.step h).c 3 _ rfl, (hV.step h).c 4 _ rfl, (hV.step h).c 5 _ rfl, (hV.step h).c 6 _ rfl, (hV.step h).c 7 _ rfl, (hV.step h).c 8 _ rfl, (hV.step h).c 9 _ rfl, (hV.step h).c 10 _ rfl⟩)
  have hXs := hB.size
  -- the ranks
  have HK0 := fun w => Lib.hid (prank_any f.lo.nu f.lo.n f.lo.s f.lq w (Go.MP.wf_bd hI.lo.2) (by have := hI.lo.1; omega) (by have := hI.lq; omega))
  have HK1 := fun w => Lib.hid (prank_any f.hi.nu f.hi.n f.hi.s f.hq w (Go.MP.wf_bd hI.hi.2) (by have := hI.hi.1; omega) (by have := hI.hq; omega))
  have k1 := putK_len hI.lo hI.lq
  have k2 := putK_len hI.hi hI.hq
  have a5 := Go.SC.add_str (P := Tryz.prog) (putK f.lo f.lq) (putK f.hi f.hq) (by omega)
  have a6 := Go.SC.add_str (P := Tryz.prog) (ftZ id ch f zn) (putK f.lo f.lq ++ putK f.hi f.hq) (by have := LZ.out zn; rw [List.length_append]; omega)
  rw [← HFF.out] at a6
  have HW2 := fun w => Lib.hid (pword_any (crcL (footB id ch f)) w (crcL_lt _))
  have HSU := Lib.hid (fun (vt : Value) (w : World) (h : RdN .u32 w w.heap.size vt tab) => csum_any vt tab (str (footB id ch f)) w h Go.CR.tab_lt (by rw [str_size]; have := HFB.out.2; omega))
  have a7 := Go.SC.add_str (P := Tryz.prog) (footB id ch f) (four (crcL (footB id ch f))) (by have := HFB.out.2; rw [four_len]; omega)
  have HCS := Lib.hid (show sumL tab (str (footB id ch f)).data.toList = crcL (footB id ch f) from rfl)
  rw [HCS.out] at HSU
  have hseal : footB id ch f ++ four (crcL (footB id ch f)) = sealB (footB id ch f) := rfl
  rw [hseal] at a7
  have A1 := Lib.hid a1; have A5 := Lib.hid a5; have A6 := Lib.hid a6; have A7 := Lib.hid a7
  clear hB hV k1 k2 a5 a6 a7 hseal HFF HFB HCS hz hc l1 a1
  generalize putK f.lo f.lq ++ putK f.hi f.hq = KK at *
  generalize putK f.lo f.lq = K0 at *
  generalize putK f.hi f.hq = K1 at *
  generalize crcL (footB id ch f) = CR at *
  generalize four CR = FCR at *
  generalize sealB (footB id ch f) = SB at *
  generalize footB id ch f = FB at *
  generalize four id = FID at *
  generalize putL f.rows = PRO at *
  go_enter Tryz.func38, Tryz.ntmps38
  have b1 := A1.out
  go_wp2_with fail
  refine Go.Confl.wp_region_confl (by simp only [List.map_cons, List.map_nil]; rfl) (by kernel_rfl) (by kernel_rfl) ?_
  iterate 9
    first
    | (refine Go.Confl.chain_skip (Go.Confl.unwanted_is rfl rfl) ?_)
    | (first | apply Go.Confl.chain_is _ (Go.Confl.wanted_none rfl) | apply Go.Confl.chain_is _ (Go.Confl.wanted_is rfl rfl)
       · intro b w hr hb K hK
         simp [Go.Confl.readFacts, Go.Confl.tmpsOf, Go.Confl.writerOf, Go.Confl.Is, Op.operands, Call.operands, List.findIdx?, List.findIdx?.go] at hr
         obtain ⟨c0, -⟩ := HVV.out _ hb
         go_wp2_with (first
           | (go_at_call 41; (with_reducible refine (HW1 _).out.mono ?_); rintro e w' ⟨rfl, hb'⟩)
           | (go_at_call 83; (with_reducible refine (HP1 _).out.mono ?_); rintro e w' ⟨rfl, hb'⟩))
         try (simp only [hr]; go_wp2)
         exact hK _ _ rfl (by first | exact Below.refl _ _ | assumption))
    simp only [List.nil_append, List.cons_append]
  intro us w hp hb
  simp [Go.Confl.allPosts, Go.Confl.Is] at hp
  simp only [Go.Confl.putsFrom, hp, Act.put, List.setIfInBounds_toArray, List.set_cons_zero, List.set_cons_succ]
  obtain ⟨w1, hw1⟩ : ∃ w1, w1 = w := ⟨_, rfl⟩
  rw [← hw1] at hb ⊢
  clear hp hw1 b1
  have HB1 := Lib.hid hb
  have HV1 := Lib.hid (fun (w' : World) (h : Below w1.heap.size w1 w') => HVV.out w' (bel_trans HB1.out h))
  have HBW := Lib.hid (show Below W.heap.size W w1 from bel_trans HB.out hb)
  clear hb HW1 HP1 hu1
  obtain ⟨-, -, -, -, -, -, -, -, -, -, c10⟩ := HV1.out w1 (Below.refl _ _)
  go_wp2_with fail
  clear c10
  have hwW := HBW.out.size
  go_loopw [5, 7, 21] (fun sv _ iv wr => ∃ j : Nat, iv = .int .i64 j ∧ j ≤ cn ∧ sv = .string (str (ftL id ch f j)) ∧ Below w1.heap.size w1 wr) (fun _ _ iv _ => cn - (intOf iv).toNat)
  case atStart => exact ⟨0, rfl, Nat.zero_le _, rfl, Below.refl _ _⟩
  case round =>
    obtain ⟨j, rfl, hj, rfl, hbel⟩ := hrel
    by_cases hlt : j < cn
    case neg =>
      obtain rfl : cn = j := by omega
      have hd0 : decide ((cn : Int) < (cn : Int)) = false := decide_eq_false (by omega)
      rw [← HFZ.out]
      have HV2 := Lib.hid (fun (w' : World) (h : Below wr.heap.size wr w') => HV1.out w' (bel_trans hbel h))
      have HBW2 := Lib.hid (show Below W.heap.size W wr from HBW.out.trans (hbel.mono hwW))
      obtain ⟨-, c1, -⟩ := HV2.out wr (Below.refl _ _)
      clear HV1 HBW hbel hwW
      go_wp2_with fail
      clear c1
      have hwW := HBW2.out.size
      obtain ⟨w2, hw2⟩ : ∃ w2, wr = w2 := ⟨_, rfl⟩
      rw [hw2] at HV2 HBW2 hwW ⊢
      clear hw2
      go_loopw [5, 9, 36] (fun sv _ iv wr => ∃ j : Nat, iv = .int .i64 j ∧ j ≤ zn ∧ sv = .string (str (ftZ id ch f j)) ∧ Below w2.heap.size w2 wr) (fun _ _ iv _ => zn - (intOf iv).toNat)
      case atStart => exact ⟨0, rfl, Nat.zero_le _, rfl, Below.refl _ _⟩
      case round =>
        obtain ⟨j, rfl, hj, rfl, hbel⟩ := hrel
        by_cases hlt : j < zn
        case neg =>
          obtain rfl : zn = j := by omega
          have hd0 : decide ((zn : Int) < (zn : Int)) = false := decide_eq_false (by omega)
          have HV3 := Lib.hid (fun (w' : World) (h : Below wr.heap.size wr w') => HV2.out w' (bel_trans hbel h))
          have HBW3 := Lib.hid (show Below W.heap.size W wr from HBW2.out.trans (hbel.mono hwW))
          have b5 := A5.out
          have b6 := A6.out
          clear HV2 HBW2 hbel
          go_wp2_with fail
          refine Go.Confl.wp_region_confl (by simp only [List.map_cons, List.map_nil]; rfl) (by kernel_rfl) (by kernel_rfl) ?_
          iterate 12
            first
            | (refine Go.Confl.chain_skip (Go.Confl.unwanted_is rfl rfl) ?_)
            | (first | apply Go.Confl.chain_is _ (Go.Confl.wanted_none rfl) | apply Go.Confl.chain_is _ (Go.Confl.wanted_is rfl rfl)
               · intro b w hr hb K hK
                 simp [Go.Confl.readFacts, Go.Confl.tmpsOf, Go.Confl.writerOf, Go.Confl.Is, Op.operands, Call.operands, List.findIdx?, List.findIdx?.go] at hr
                 obtain ⟨-, -, c2, c3, c4, c5, c6, c7, c8, c9, -⟩ := HV3.out _ hb
                 go_wp2_with (first
                   | (go_at_call 85; (with_reducible refine (HK0 _).out.mono ?_); rintro e w' ⟨rfl, hb'⟩)
                   | (go_at_call 85; (with_reducible refine (HK1 _).out.mono ?_); rintro e w' ⟨rfl, hb'⟩))
                 try (simp only [hr]; go_wp2)
                 exact hK _ _ rfl (by first | exact Below.refl _ _ | assumption))
            simp only [List.nil_append, List.cons_append]
          intro us w hp hb
          simp [Go.Confl.allPosts, Go.Confl.Is] at hp
          simp only [Go.Confl.putsFrom, hp, Act.put, List.setIfInBounds_toArray, List.set_cons_zero, List.set_cons_succ]
          obtain ⟨w3, hw3⟩ : ∃ w3, w3 = w := ⟨_, rfl⟩
          rw [← hw3] at hb ⊢
          have HB3 := Lib.hid hb
          clear hp hw3 b5 b6 hb
          go_wp2_with fail
          (with_reducible refine (ctable_any _).mono ?_)
          rintro e w4 ⟨vt, rfl, hown, hB4⟩
          have hSc := Lib.hid (HSU.out vt w4 hown.read)
          obtain ⟨At, ct, rfl, _⟩ := hown.read
          go_wp2_with fail
          (with_reducible refine hSc.out.mono ?_)
          rintro e w5 ⟨rfl, rfl⟩
          have b7 := A7.out
          go_wp2_with fail
          (with_reducible refine (HW2 _).out.mono ?_)
          rintro e w6 ⟨rfl, hb6⟩
          go_wp2_with fail
          go_ret
          exact RetB.mk rfl (bel_trans (bel_trans (bel_trans HBW3.out HB3.out) hB4) hb6)
        have hd0 : decide ((j : Int) < (zn : Int)) = true := decide_eq_true (by omega)
        have hd0' : decide (j < zn) = true := decide_eq_true hlt
        have hzj : f.zs[j]? = some (f.zs[j]'(by rw [HI.out.zl]; exact hlt)) := List.getElem?_eq_getElem _
        have hzb := HI.out.zs _ (List.getElem_mem (by rw [HI.out.zl]; exact hlt : j < f.zs.length))
        have hst := HZS.out j _ hzj
        obtain ⟨ad, rfl, hab, hat⟩ := (HZ.out.below (HBW2.out.trans (hbel.mono hwW))).at hzj
        generalize f.zs[j]'_ = z at hzb hst hat
        have y0 : wr.cell? (ad.add (j * 8)) = some (.int .i64 z.rows) := hat.c0 rfl
        have y1 : wr.cell? ⟨(ad.add (j * 8)).block, (ad.add (j * 8)).off + 1, none⟩ = some (.int .i64 z.nulls) := hat.ck 1 (by decide) rfl
        have y2 : wr.cell? ⟨(ad.add (j * 8)).block, (ad.add (j * 8)).off + 2, none⟩ = some (.bool z.mn.nu) := hat.ck 2 (by decide) rfl
        have y3 : wr.cell? ⟨(ad.add (j * 8)).block, (ad.add (j * 8)).off + 3, none⟩ = some (.int .i64 z.mn.n) := hat.ck 3 (by decide) rfl
        have y4 : wr.cell? ⟨(ad.add (j * 8)).block, (ad.add (j * 8)).off + 4, none⟩ = some (.string z.mn.s) := hat.ck 4 (by decide) rfl
        have y5 : wr.cell? ⟨(ad.add (j * 8)).block, (ad.add (j * 8)).off + 5, none⟩ = some (.bool z.mx.nu) := hat.ck 5 (by decide) rfl
        have y6 : wr.cell? ⟨(ad.add (j * 8)).block, (ad.add (j * 8)).off + 6, none⟩ = some (.int .i64 z.mx.n) := hat.ck 6 (by decide) rfl
        have y7 : wr.cell? ⟨(ad.add (j * 8)).block, (ad.add (j * 8)).off + 7, none⟩ = some (.string z.mx.s) := hat.ck 7 (by decide) rfl
        have HPZ := fun w => Lib.hid (show Calls Tryz.prog 84 #[.agg #[.int .i64 z.rows, .int .i64 z.nulls, .bool z.mn.nu, .int .i64 z.mn.n, .string z.mn.s, .bool z.mx.nu, .int .i64 z.mx.n, .string z.mx.s]] w (RetB (.string (str (putZ z))) w) from zput_at z w hzb)
        have ad1 := Go.SC.add_str (P := Tryz.prog) (ftZ id ch f j) (putZ z) (by have := LZ.out j; have := hzb.len; omega)
        rw [← hst] at ad1
        have hal := hbel.alloc hbel.size (.cells #[.int .i64 z.rows, .int .i64 z.nulls, .bool z.mn.nu, .int .i64 z.mn.n, .string z.mn.s, .bool z.mx.nu, .int .i64 z.mx.n, .string z.mx.s] 59)
        have HAL := Lib.hid hal
        have hws := hal.size
        have hz13 : zn ≤ 12 := h12
        clear hst hat hzj hzb hbel hal
        generalize putZ z = PZ at *
        generalize ftZ id ch f j = FZ0 at *
        obtain ⟨FZ1, hFZ1⟩ : ∃ F, ftZ id ch f (j + 1) = F := ⟨_, rfl⟩
        rw [hFZ1] at ad1
        have HFZ1 := Lib.hid hFZ1
        clear hFZ1
        go_wp2_with fail
        (with_reducible refine (HPZ _).out.mono ?_); rintro e w5 ⟨rfl, hb5⟩
        have HB5 := Lib.hid (HAL.out.trans (hb5.mono hws))
        clear hb5 y0 y1 y2 y3 y4 y5 y6 y7
        go_wp2_with fail
        go_roundw
        case rel => exact ⟨j + 1, by go_num, hlt, by rw [HFZ1.out], HB5.out⟩
        case measure => simp [intOf]; omega
    have hd0 : decide ((j : Int) < (cn : Int)) = true := decide_eq_true (by omega)
    have hd0' : decide (j < cn) = true := decide_eq_true hlt
    have hcl : j < ch.length := by rw [HI.out.cl, ← HCN.out]; exact hlt
    have hcj : ch[j]? = some ch[j] := List.getElem?_eq_getElem hcl
    have hle := HI.out.lens _ (List.getElem_mem hcl)
    have hst := HLS.out j _ hcj
    have htj : (chT ch)[j]? = some (str ch[j]) := by unfold chT; rw [List.getElem?_map, hcj]; rfl
    obtain ⟨ad, rfl, hab, k0⟩ := (HC.out.below (HBW.out.trans (hbel.mono hwW))).at htj
    have hsz : (str ch[j]).size = ch[j].length := str_size _
    obtain ⟨T, hT⟩ : ∃ T, str ch[j] = T := ⟨_, rfl⟩
    rw [hT] at k0 hsz
    obtain ⟨n, hn⟩ : ∃ n, ch[j].length = n := ⟨_, rfl⟩
    rw [hn] at hle hst hsz
    have HPL := fun w => Lib.hid (vput_any n w (by omega))
    have hu : IntKind.u64.wrap (n : Int) = (n : Int) := IntWalk.u64_in _ ⟨by omega, by omega⟩
    have lp := putL_len10 (n := n) (by omega)
    have ad1 := Go.SC.add_str (P := Tryz.prog) (ftL id ch f j) (putL n) (by have := LL.out j; omega)
    rw [← hst] at ad1
    have HBL := Lib.hid hbel
    have hz13 : zn ≤ 12 := h12
    have hws := hbel.size
    clear hst hcj htj hT hn lp hcl hbel
    generalize putL n = PN at *
    generalize ftL id ch f j = FL0 at *
    obtain ⟨FL1, hFL1⟩ : ∃ F, ftL id ch f (j + 1) = F := ⟨_, rfl⟩
    rw [hFL1] at ad1
    have HFL1 := Lib.hid hFL1
    clear hFL1
    go_wp2_with fail
    (with_reducible refine (HPL _).out.mono ?_); rintro e w5 ⟨rfl, hb5⟩
    have HB5 := Lib.hid (HBL.out.trans (hb5.mono hws))
    clear hb5 k0
    go_wp2_with fail
    go_roundw
    case rel => exact ⟨j + 1, by go_num, hlt, by rw [HFL1.out], HB5.out⟩
    case measure => simp [intOf]; omega
end Go.Proofs.YtnmlajmaffiigaaGreatDoor

namespace Go.MP
open Go.RowKit Go.VB Go.VarM Go.VS Go.VL Go.CK Go.RS Go.SC Go.MK Go.ZN
theorem join_flat : ∀ ls : List (List UInt8), Lib.join ls [] = ls.flatten
  | [] => rfl
  | [x] => by simp [Lib.join, List.intercalate]
  | x :: y :: r => by
    have h := join_flat (y :: r)
    unfold Lib.join List.intercalate at h ⊢
    rw [List.intersperse_cons_cons, List.flatten_cons, List.flatten_cons, h]
    rfl
theorem join_ch (ch : List (List UInt8)) : Lib.join ((chT ch).map (·.data.toList)) (⟨#[]⟩ : ByteArray).data.toList = ch.flatten := by
  have : (chT ch).map (·.data.toList) = ch := by
    unfold chT; rw [List.map_map]
    exact (List.map_congr_left fun _ _ => rfl).trans (List.map_id ch)
  rw [this]
  exact join_flat ch
theorem flat_ch {ch : List (List UInt8)} (h : ∀ b ∈ ch, b.length ≤ 330004) (hl : ch.length ≤ 13) : ch.flatten.length ≤ 4290052 := by
  have h1 := flat_le h
  omega
theorem add_big {P : Program} (a b : List UInt8) (h : a.length + b.length ≤ 100000000) : ∀ w, (Op.stringOp .add (str a) (str b)).run P w = .ok (.string (str (a ++ b))) w := fun w => by
  rw [run_string_add_sum w (str a) (str b) (by rw [str_size, str_size]; omega), str_append]
end Go.MP
namespace Go.Proofs.YtnmlajmaffiigaaGreatDoor
open Go.RowKit Go.VB Go.VarM Go.BP Go.VS Go.VL Go.SC Go.CK Go.ST Go.MK Go.RS Go.ZN Go.MP Go.RL
set_option linter.constructorNameAsVariable false
set_option maxRecDepth 100000 in
set_option maxHeartbeats 2000000 in
theorem mencode_good (cs : List Col) (v : Value) (key : Int) (x : Value) (l : List Rc) (W : World) (hr : RdC W W.heap.size v cs) (hx : RdR W W.heap.size x l) (hi : InR l) (hE : encFE cs key l = 0) :
    Calls Tryz.prog 14 #[.agg #[v, .int .i64 key], x] W (RetB (.tuple #[.string (str (fileOf cs key l)), .int .i64 0]) W) := by
  obtain ⟨hc, hl, h0, hs⟩ := encFE_zero hE
  have S := srt_of hs
  obtain ⟨c0, c12, -, -, -⟩ := chkS_ok hc
  have HR := Lib.hid hr; have HX := Lib.hid hx
  have hID : IDN cs key < 4294967296 := by rw [IDN_ok hc]; exact crcL_lt _
  have HI := Lib.hid (ibd_of S hl h0 hi)
  have HS := Lib.hid S; have HL := Lib.hid hl; have H0 := Lib.hid h0; have HIR := Lib.hid hi; have HCH := Lib.hid hc
  have HSO := Lib.hid hs
  obtain ⟨xA, xc, xn, rfl, hxn, -, -⟩ := hx.bds
  have HV := Lib.hid (Var2.new W v (.int .i64 key) 24)
  have HB0 := Lib.hid ((Below.refl W.heap.size W).alloc (Nat.le_refl _) (.cells #[v, .int .i64 key] 24))
  have HS0 := Lib.hid (show (W.alloc (.cells #[v, .int .i64 key] 24)).heap.size = W.heap.size + 1 from by simp)
  obtain ⟨W1, hW1⟩ : ∃ W1, W.alloc (.cells #[v, .int .i64 key] 24) = W1 := ⟨_, rfl⟩
  rw [hW1] at HV HB0 HS0
  have HV1 := Lib.hid (fun (w : World) (h : Below W1.heap.size W1 w) => HV.out.below h (by rw [HS0.out]; omega))
  obtain ⟨A, cc, rfl, -, -, -⟩ := hr
  have hid := id_any cs (.slice A cs.length cc) key W1 (HR.out.step HB0.out)
  rw [hc] at hid
  have HID := Lib.hid hid
  obtain ⟨v0, v1, -, -⟩ := id HV.out
  have hd1 : decide (1024 < (xn : Int)) = false := decide_eq_false (by omega)
  have hd1' : decide (1024 < xn) = false := decide_eq_false (by omega)
  have hd2 : ((xn : Int) == 0) = false := beq_eq_false_iff_ne.2 (by omega)
  have hd3 : (xn == 0) = false := beq_eq_false_iff_ne.2 (by omega)
  have HXN := Lib.hid hxn
  clear hid hx hi hE hc hl h0 hs S hxn
  generalize hm : cs.length = m at *
  have HM := Lib.hid hm
  clear hm
  go_enter Tryz.func14, Tryz.ntmps14
  go_wp2_with fail
  (with_reducible refine HID.out.mono ?_); rintro e w2 ⟨rfl, hb2⟩
  obtain ⟨v0, v1, -, -⟩ := (HV1.out _ hb2)
  have HB2 := Lib.hid hb2
  have HSR := Lib.hid (bsorted_any cs (.slice A m cc) key (.slice xA xn xc) l w2 (HR.out.step (bel_trans HB0.out hb2)) (HX.out.step (bel_trans HB0.out hb2)))
  clear HID hb2
  go_wp2_with fail
  (with_reducible refine HSR.out.mono ?_); rintro e w3 ⟨rfl, hb3⟩
  have HB3 := Lib.hid (bel_trans HB2.out hb3)
  obtain ⟨v0, v1, -, -⟩ := (HV1.out _ HB3.out)
  rw [HSO.out]
  have HEC := Lib.hid (encCols_any cs (.slice A m cc) key (.slice xA xn xc) l w3 (HR.out.step (bel_trans HB0.out HB3.out)) (HX.out.step (bel_trans HB0.out HB3.out)) HCH.out HL.out HS.out.ok HIR.out)
  rw [HM.out] at HEC
  have hfo : fileOf cs key l = fileB (chs cs l (m + 1)) (footB (IDN cs key) (chs cs l (m + 1)) (infOf cs key l)) := by unfold fileOf; rw [HM.out]
  have HDEW := Lib.hid (fun (w : World) (h : Below W.heap.size W w) => describe_any cs (.slice A m cc) key (.slice xA xn xc) l w (HR.out.step h) (HX.out.step h) HCH.out HL.out H0.out HS.out.ok)
  have HII := HI.out
  have HLEN := Lib.hid (fun (b : List UInt8) (h : b ∈ chs cs l (m + 1)) => HII.lens b h)
  have HFO := Lib.hid hfo
  generalize infOf cs key l = F at *
  generalize hCH : chs cs l (m + 1) = CH at *
  have HCHN := Lib.hid (show CH.length = m + 1 by rw [← hCH]; exact chs_len ..)
  have HI2 := Lib.hid HII
  have hbd := body_len HII c12 (IDN cs key)
  have hfl : CH.flatten.length ≤ 4290052 := flat_ch HLEN.out (by rw [HCHN.out]; omega)
  clear hfo HI HII hCH
  go_wp2_with fail
  (with_reducible refine HEC.out.mono ?_); rintro e w4 ⟨u, rfl, hown, hb4⟩
  rcases hown.forms with ⟨-, h⟩ | ⟨g, gc, rfl, hrow⟩
  · have h2 := chT_len CH
    rw [h, HCHN.out] at h2
    cases h2
  have HROW := Lib.hid hrow
  obtain ⟨n1, hn1⟩ : ∃ n1, (chT CH).length = n1 := ⟨_, rfl⟩
  have hn2 : n1 = m + 1 := by rw [← hn1, chT_len, HCHN.out]
  have HB4 := Lib.hid (bel_trans HB3.out hb4)
  obtain ⟨v0, v1, -, -⟩ := (HV1.out _ HB4.out)
  have HDE := Lib.hid (HDEW.out w4 (bel_trans HB0.out HB4.out))
  clear HEC hb4 hown hrow HDEW
  rw [hn1]
  have HN1 := Lib.hid hn1
  have HN2 := Lib.hid hn2
  clear hn1 hn2
  go_wp2_with fail
  (with_reducible refine HDE.out.mono ?_); rintro e w5 ⟨zv, rfl, hz, hb5⟩
  have HB5 := Lib.hid (bel_trans HB4.out hb5)
  have hr5 := HROW.out.below hb5
  have ho5 := hr5.own.read
  rw [HN1.out] at ho5
  have HPF := Lib.hid (pfoot_any (IDN cs key) m F zv _ CH w5 hID hz ho5 HI2.out c12)
  have HR5 := Lib.hid hr5
  clear HDE hz hb5 ho5 hr5 HROW
  unfold infV
  go_wp2_with fail
  (with_reducible refine HPF.out.mono ?_); rintro e w6 ⟨rfl, hb6⟩
  have HB6 := Lib.hid (bel_trans HB5.out hb6)
  have hr6 := HR5.out.below hb6
  have hlt6 := hr6.lt
  have HJ := Tryz.strings_Join g 0 gc (chT CH) ⟨#[]⟩ w6 (fun j x h => by rw [Nat.zero_add]; exact hr6.cell j x h) hlt6.2 (by rw [HN1.out, HN2.out]; omega) (by have := hr6.own.read.bds; obtain ⟨_, _, _, e1, e2, e3, _⟩ := this; cases e1; exact e3) (by rw [join_ch]; omega)
  rw [join_ch, HN1.out] at HJ
  have HJN := Lib.hid (show Calls Tryz.prog 40 #[.slice (some ⟨g, 0, none⟩) n1 gc, .string ⟨#[]⟩] w6 (fun e w' => e = .returned (.string (str CH.flatten)) ∧ Below w6.heap.size w6 w') from HJ)
  have hsl := seal_len (footB (IDN cs key) CH F)
  have a1 : ∀ w, (Op.stringOp .add (⟨#[77, 80, 84, 49]⟩ : ByteArray) (str CH.flatten)).run Tryz.prog w = .ok (.string (str (mkB ++ CH.flatten))) w := add_big mkB _ (by rw [mk_len]; omega)
  have a2 := add_big (P := Tryz.prog) (mkB ++ CH.flatten) (sealB (footB (IDN cs key) CH F)) (by rw [List.length_append, mk_len]; omega)
  have a3 := add_big (P := Tryz.prog) (mkB ++ CH.flatten ++ sealB (footB (IDN cs key) CH F)) (four (sealB (footB (IDN cs key) CH F)).length) (by rw [List.length_append, List.length_append, mk_len, four_len]; omega)
  have a4 : ∀ w, (Op.stringOp .add (str (mkB ++ CH.flatten ++ sealB (footB (IDN cs key) CH F) ++ four (sealB (footB (IDN cs key) CH F)).length)) (⟨#[77, 80, 84, 49]⟩ : ByteArray)).run Tryz.prog w = .ok (.string (str (fileB CH (footB (IDN cs key) CH F)))) w := add_big _ mkB (by rw [List.length_append, List.length_append, List.length_append, mk_len, four_len]; omega)
  have HPW := fun w => Lib.hid (pword_any (sealB (footB (IDN cs key) CH F)).length w (by omega))
  have hsz : (str (sealB (footB (IDN cs key) CH F))).size = (sealB (footB (IDN cs key) CH F)).length := str_size _
  have hu : IntKind.u32.wrap ((sealB (footB (IDN cs key) CH F)).length : Int) = ((sealB (footB (IDN cs key) CH F)).length : Int) := by rw [IntKind.wrap_u32]; omega
  clear HJ hr6 hlt6 HPF hb6 HR5 hbd hfl hsl
  generalize fileB CH (footB (IDN cs key) CH F) = FIN at *
  generalize (sealB (footB (IDN cs key) CH F)).length = SN at *
  generalize sealB (footB (IDN cs key) CH F) = SB at *
  generalize mkB ++ CH.flatten ++ SB ++ four SN = Q3 at *
  generalize mkB ++ CH.flatten ++ SB = Q2 at *
  generalize mkB ++ CH.flatten = Q1 at *
  generalize CH.flatten = Q0 at *
  generalize four SN = FS at *
  generalize hTS : str SB = TS at *
  clear hTS
  go_wp2_with fail
  (with_reducible refine HJN.out.mono ?_); rintro e w7 ⟨rfl, hb7⟩
  have HB7 := Lib.hid (bel_trans HB6.out hb7)
  clear hb7 HJN
  go_wp2_with fail
  (with_reducible refine (HPW _).out.mono ?_); rintro e w8 ⟨rfl, hb8⟩
  have HB8 := Lib.hid (bel_trans HB7.out hb8)
  clear hb8
  go_wp2_with fail
  refine bodyPost_ret (v := .tuple #[.string (str FIN), .int .i64 0]) (by simp [results, Tryz.results14, go_sem]) rfl ?_
  exact RetB.mk (by rw [HFO.out]) (bel_trans HB0.out HB8.out)
set_option maxRecDepth 100000 in
set_option maxHeartbeats 2000000 in
theorem mencode_any (cs : List Col) (v : Value) (key : Int) (x : Value) (l : List Rc) (W : World) (hr : RdC W W.heap.size v cs) (hx : RdR W W.heap.size x l) (hi : InR l) :
    Calls Tryz.prog 14 #[.agg #[v, .int .i64 key], x] W (RetB (.tuple #[.string (encF cs key l), .int .i64 (encFE cs key l : Nat)]) W) := by
  by_cases hE : encFE cs key l = 0
  · rw [encF_ok hE, hE]
    exact mencode_good cs v key x l W hr hx hi hE
  rw [encF_bad hE]
  have HR := Lib.hid hr; have HX := Lib.hid hx
  obtain ⟨xA, xc, xn, rfl, hxn, -, -⟩ := hx.bds
  have HV := Lib.hid (Var2.new W v (.int .i64 key) 24)
  have HB0 := Lib.hid ((Below.refl W.heap.size W).alloc (Nat.le_refl _) (.cells #[v, .int .i64 key] 24))
  have HS0 := Lib.hid (show (W.alloc (.cells #[v, .int .i64 key] 24)).heap.size = W.heap.size + 1 from by simp)
  obtain ⟨W1, hW1⟩ : ∃ W1, W.alloc (.cells #[v, .int .i64 key] 24) = W1 := ⟨_, rfl⟩
  rw [hW1] at HV HB0 HS0
  have HV1 := Lib.hid (fun (w : World) (h : Below W1.heap.size W1 w) => HV.out.below h (by rw [HS0.out]; omega))
  obtain ⟨A, cc, rfl, -, -, -⟩ := hr
  have hid := id_any cs (.slice A cs.length cc) key W1 (HR.out.step HB0.out)
  obtain ⟨v0, v1, -, -⟩ := id HV.out
  by_cases hc : chkS cs key = 0
  · rw [hc] at hid
    have HID := Lib.hid hid
    by_cases h1 : 1024 < l.length
    · have HEE := Lib.hid (encFE_full hc h1)
      have hd1 : decide (1024 < (xn : Int)) = true := decide_eq_true (by omega)
      have hd1' : decide (1024 < xn) = true := decide_eq_true (by omega)
      clear hid hx hi hE hc h1 hxn
      generalize cs.length = m at *
      go_enter Tryz.func14, Tryz.ntmps14
      go_wp2_with fail
      (with_reducible refine HID.out.mono ?_); rintro e w2 ⟨rfl, hb2⟩
      go_wp2_with fail
      refine bodyPost_ret (v := .tuple #[.string ⟨#[]⟩, .int .i64 7]) (by simp [results, Tryz.results14, go_sem]) rfl ?_
      exact RetB.mk (by rw [HEE.out]; rfl) (bel_trans HB0.out hb2)
    have hd1 : decide (1024 < (xn : Int)) = false := decide_eq_false (by omega)
    have hd1' : decide (1024 < xn) = false := decide_eq_false (by omega)
    by_cases h0 : l.length = 0
    · have HEE := Lib.hid (encFE_arg hc h1 (.inl h0))
      have hd2 : ((xn : Int) == 0) = true := beq_iff_eq.2 (by omega)
      have hd3 : (xn == 0) = true := beq_iff_eq.2 (by omega)
      clear hid hx hi hE hc h1 hxn h0
      generalize cs.length = m at *
      go_enter Tryz.func14, Tryz.ntmps14
      go_wp2_with fail
      (with_reducible refine HID.out.mono ?_); rintro e w2 ⟨rfl, hb2⟩
      go_wp2_with fail
      refine bodyPost_ret (v := .tuple #[.string ⟨#[]⟩, .int .i64 1]) (by simp [results, Tryz.results14, go_sem]) rfl ?_
      exact RetB.mk (by rw [HEE.out]; rfl) (bel_trans HB0.out hb2)
    have hd2 : ((xn : Int) == 0) = false := beq_eq_false_iff_ne.2 (by omega)
    have hd3 : (xn == 0) = false := beq_eq_false_iff_ne.2 (by omega)
    have hs : srtdB cs key l = false := by
      cases h : srtdB cs key l with
      | false => rfl
      | true => exact absurd (encFE_ok h1 h0 h) hE
    have HEE := Lib.hid (encFE_arg hc h1 (.inr hs))
    have HSO := Lib.hid hs
    clear hid hx hi hE hc h1 hxn h0 hs
    generalize cs.length = m at *
    go_enter Tryz.func14, Tryz.ntmps14
    go_wp2_with fail
    (with_reducible refine HID.out.mono ?_); rintro e w2 ⟨rfl, hb2⟩
    obtain ⟨v0, v1, -, -⟩ := (HV1.out _ hb2)
    have HB2 := Lib.hid hb2
    have hsr := bsorted_any cs (.slice A m cc) key (.slice xA xn xc) l w2 (HR.out.step (bel_trans HB0.out hb2)) (HX.out.step (bel_trans HB0.out hb2))
    rw [HSO.out] at hsr
    have HSR := Lib.hid hsr
    clear HID hb2 hsr
    go_wp2_with fail
    (with_reducible refine HSR.out.mono ?_); rintro e w3 ⟨rfl, hb3⟩
    have HB3 := Lib.hid (bel_trans HB2.out hb3)
    clear hb3
    go_wp2_with fail
    refine bodyPost_ret (v := .tuple #[.string ⟨#[]⟩, .int .i64 1]) (by simp [results, Tryz.results14, go_sem]) rfl ?_
    exact RetB.mk (by rw [HEE.out]; rfl) (bel_trans HB0.out HB3.out)
  · have HID := Lib.hid hid
    have HEE := Lib.hid (encFE_sch (l := l) hc)
    have hd : ((chkS cs key : Int) != 0) = true := ine_t (by omega)
    clear hid hx hi hE hc hxn
    generalize cs.length = m at *
    go_enter Tryz.func14, Tryz.ntmps14
    go_wp2_with fail
    (with_reducible refine HID.out.mono ?_); rintro e w2 ⟨rfl, hb2⟩
    go_wp2_with fail
    refine bodyPost_ret (v := .tuple #[.string ⟨#[]⟩, .int .i64 (chkS cs key : Nat)]) (by simp [results, Tryz.results14, go_sem]) rfl ?_
    exact RetB.mk (by rw [HEE.out]) (bel_trans HB0.out hb2)
end Go.Proofs.YtnmlajmaffiigaaGreatDoor
