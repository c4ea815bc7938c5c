/- The walks over package delta: the bytes of a block. -/
import Derived.Test.YtjoohmifbkbpbaaDltW1
import Derived.Deep.RegionWith
namespace Go.DL
open Go.RowKit Go.VB Go.VarM Go.BP
theorem offs_at {d : List Int} {i : Nat} {x : Int} (h : d[i]? = some x) : (offs d)[i]? = some (x - lst d).toNat := off_at h
theorem run_add_parts {P : Program} (a b : List UInt8) (h : a.length + b.length ≤ 4611686018427387904) (w : World) : (Op.stringOp .add (str a) (str b)).run P w = .ok (.string (str (a ++ b))) w := by
  rw [run_string_add_sum w (str a) (str b) (by rw [str_size, str_size]; omega), str_append]
end Go.DL
namespace Go.Proofs.Ytjoohmifbkbpbaa
open Go.RowKit Go.VB Go.VarM Go.BP Go.RL Go.DL
set_option maxRecDepth 100000 in
set_option maxHeartbeats 4000000 in
theorem putblock_any (v : Value) (d : List Int) (B : Nat) (w : World) (hr : RdV (Value.int .i64) w B v d) (hB : B ≤ w.heap.size) (h0 : 0 < d.length) (hl : d.length ≤ 32) (hi : I64 d) :
    Calls Try.prog 19 #[v] w (RetB (.string (str (blk d))) w) := by
  obtain ⟨A, c, rfl, hc1, hc2, hr'⟩ := hr
  have hr : RdV (Value.int .i64) w B (.slice A d.length c) d := ⟨A, c, rfl, hc1, hc2, hr'⟩
  unfold maxLen at hc2
  have hne : d ≠ [] := List.ne_nil_of_length_pos h0
  obtain ⟨q, hq⟩ : ∃ q, d[0]? = some q := ⟨_, List.getElem?_eq_getElem h0⟩
  obtain ⟨ad, rfl, hab, hg0⟩ := hr' 0 q hq
  rw [addr_zero] at hg0
  have hhd : d.headD 0 = q := by cases d <;> simp_all
  have hlm : d.foldl min q = lst d := by rw [← hhd]; rfl
  have hmb := lst_bd hi hne
  have hol := offs_len d
  have hone := offs_ne hne
  have ho64 := offs_lt hi hne
  have hwl := wd_le hi hne
  have hpk := packR_ok (l := offs d) hwl (by rw [hol]; omega) (offs_wd d)
  have hwg : wid (gr (offs d)) = wd d := rfl
  have hg64 := ho64 _ (gr_in hone)
  have HOA := fun {i x} (h : d[i]? = some x) => offs_at h
  have hpl := packed_len (offs d) (wd d)
  have h8 := need8 (c := d.length) hwl
  rw [hol] at hpl
  have HLX := fun {x} (h : x ∈ d) => lst_le h
  have hT : putL (zigN (lst d)).toNat ++ [UInt8.ofNat (wd d)] ++ packed (offs d) (wd d) = blk d := rfl
  have hput := putL_len10 (zig_lt hmb)
  generalize hO : offs d = O at *
  generalize hM : lst d = M at *
  generalize hW : wd d = D at *
  generalize hBK : blk d = T at *
  have HPS := fun w' => Lib.hid (putsig_any M w' hmb)
  have HMK := fun w' => Lib.hid (run_makeN (P := Try.prog) Try.underlying46 Try.infoU64 d.length (by omega) (by unfold maxLen; omega) w')
  have HR := Lib.hid hr; have HLM := Lib.hid hlm; have HOA' := fun i x h => Lib.hid (@HOA i x h); have HI := Lib.hid hi
  have HPK := Lib.hid hpk; have HWG := Lib.hid hwg; have HO64 := Lib.hid ho64
  have HT := Lib.hid hT; have HPL := Lib.hid hpl; have HOL := Lib.hid hol; have HLY := fun x h => Lib.hid (@HLX x h); have HONE := Lib.hid hone
  clear HLX hr' hr hlm HOA hi hpk hwg ho64 hT hpl hol hone hO hM hW hBK
  go_enter Try.func19, Try.ntmps19
  go_wp2_with fail
  go_loopw [3, 19] (fun a i wr => ∃ (x : Int) (j : Nat), a = .int .i64 x ∧ i = .int .i64 j ∧ j ≤ d.length ∧ (d.take j).foldl min q = x ∧ Below w.heap.size w wr) (fun _ i _ => d.length - (intOf i).toNat)
  case atStart => exact ⟨q, 0, rfl, rfl, Nat.zero_le _, rfl, Below.refl _ _⟩
  case round =>
    clear hg0
    obtain ⟨x, j, rfl, rfl, hj, hx, hbel⟩ := hrel
    have HX := Lib.hid hx
    clear hx
    by_cases hlt : j < d.length
    · have hlj : d[j]? = some (d[j]'hlt) := List.getElem?_eq_getElem _
      obtain ⟨_, _, hv1, _, _, hcx⟩ := HR.out.below (hbel.mono hB)
      cases hv1
      obtain ⟨ad', e1, _, hgx⟩ := hcx j _ hlj
      cases e1
      have HS1 := Lib.hid (fold_snoc min q hlj)
      clear hcx hlj
      generalize d[j]'hlt = V at *
      go_wp2_with fail
      go_roundw
      case rel => exact ⟨min x V, j + 1, vint (by split <;> omega), by go_num, hlt, by rw [HS1.out, HX.out], hbel⟩
      case measure => simp [intOf] <;> omega
    · have hx : x = M := by rw [← HX.out, ← HLM.out, List.take_of_length_le (by omega)]
      subst hx
      obtain ⟨wo, hwo⟩ : ∃ wo, wo = wr := ⟨wr, rfl⟩
      subst hwo
      have hmk := (HMK wo).out
      have hrow := RowN.made .u64 44 wo wo.heap.size d.length (Nat.le_refl _) (by unfold maxLen; omega)
      have hb2 := (Below.refl wo.heap.size wo).alloc (Nat.le_refl _) (.cells (madeCells #[.int .u64 0] d.length) 44)
      generalize wo.alloc (.cells (madeCells #[.int .u64 0] d.length) 44) = w1 at hmk hrow hb2
      clear HMK HX
      go_wp2_with fail
      clear hmk
      go_loopw [32] (fun i wr => ∃ (j : Nat) (L : List Nat), i = .int .i64 j ∧ j ≤ d.length ∧ RowN .u64 44 wr wo.heap.size wo.heap.size d.length L ∧ L = O.take j ++ List.replicate (d.length - j) 0 ∧ Below wo.heap.size wo wr) (fun i _ => d.length - (intOf i).toNat)
      case atStart => exact ⟨0, _, rfl, Nat.zero_le _, hrow, fill_start O d.length 0, hb2⟩
      case round =>
        clear hrow hb2
        obtain ⟨j, L, rfl, hj, hrow, hL, hbk⟩ := hrel
        have HL := Lib.hid hL; clear hL
        by_cases hjl : j < d.length
        · have hlj : d[j]? = some (d[j]'hjl) := List.getElem?_eq_getElem _
          obtain ⟨_, _, hv1, _, _, hcx⟩ := HR.out.below ((hbel.trans (hbk.mono hbel.size)).mono hB)
          cases hv1
          obtain ⟨ad', e1, _, hgx⟩ := hcx j _ hlj
          cases e1
          have hoj := (HOA' _ _ hlj).out
          have HSE := Lib.hid (fill_set (z := 0) HOL.out hjl hoj)
          have hge := (HLY _ (List.mem_of_getElem? hlj)).out
          have hvb := HI.out.at hlj
          clear hcx hlj hoj
          generalize d[j]'hjl = V at *
          obtain ⟨o, ho⟩ : ∃ o : Nat, (V - x).toNat = o := ⟨_, rfl⟩
          rw [ho] at HSE
          have hE : IntKind.u64.wrap (IntKind.u64.wrap V - IntKind.u64.wrap x) = (o : Int) := by
            rw [IntKind.wrap_u64, IntKind.wrap_u64, IntKind.wrap_u64]; omega
          have hst : RowN .u64 44 (wr.setCell ⟨wo.heap.size, j, none⟩ (.int .u64 (o : Int))) wo.heap.size wo.heap.size d.length (L.set j o) := hrow.store j o
          have hfr := hrow.frozen j
          have hlL : L.length = d.length := by rw [HL.out]; exact fill_len HOL.out hj
          have hcl := hrow.cell j (by omega)
          generalize L.getD j 0 = old at hcl
          have hbel2 : Below wo.heap.size wo (wr.setCell ⟨wo.heap.size, j, none⟩ (.int .u64 (o : Int))) := hbk.setCell (p := ⟨wo.heap.size, j, none⟩) (Nat.le_refl _) _
          have HST := Lib.hid hst; have HBE := Lib.hid hbel2
          clear hst hbel2 ho hge hvb
          go_wp2_with fail
          go_roundw
          case rel => exact ⟨j + 1, L.set j o, by go_num, hjl, HST.out, by rw [HL.out]; exact HSE.out, HBE.out⟩
          case measure => simp [intOf] <;> omega
        · have hjn : j = d.length := by omega
          have hfin : L = O := by rw [HL.out, hjn]; exact fill_end HOL.out
          subst hfin
          have hrd : RdN .u64 wr wr.heap.size (.slice (some ⟨wo.heap.size, 0, none⟩) d.length d.length) L := by
            have h := hrow.read
            rw [HOL.out] at h
            exact h
          have hone := HONE.out
          have HLG := Lib.hid (lag_any _ L _ wr hrd (Nat.le_refl _) (List.length_pos_iff.2 hone) HO64.out)
          have HB := Lib.hid (hbel.trans (hbk.mono hbel.size))
          have HRD := Lib.hid hrd
          clear hrd hone hjn hrow hbel hbk
          go_wp2_with fail
          refine HLG.out.mono ?_; rintro e w2 ⟨rfl, hb2⟩
          have hrd2 := (HRD.out).step hb2
          have hB2 := bel_trans HB.out hb2
          clear HLG HRD HB hb2
          go_wp2_with fail
          refine (bwidth_any _ _ hg64).mono ?_; rintro e w' ⟨rfl, rfl⟩
          rw [HWG.out]
          go_wp2_with fail
          refine (bpack_eq _ L (D : Nat) _ _ hrd2 (Nat.le_refl _) HO64.out HPK.out).mono ?_; rintro e w3 ⟨rfl, hb3⟩
          replace hB2 := bel_trans hB2 hb3
          clear hrd2 hb3 HPK HO64
          go_wp2_with fail
          have hpl := HPL.out
          clear HL HOA' HWG HPL HOL HONE hg64 HLY HLM HI HR hjl hlt
          have hw8 : IntKind.u8.wrap (D : Int) = (D : Int) := by simp [IntKind.wrap, IntKind.bits, IntKind.signed]; omega
          have hcv1 := fun (W : World) m => run_string1 (P := Try.prog) 30 9 5 Try.underlying30 Try.underlying5 Try.underlying9 W (D : Int) m
          have hcv2 := fun (W : World) m => run_string1_drew (P := Try.prog) 30 9 5 Try.underlying30 Try.underlying5 Try.underlying9 W (D : Int) m
          have hcv3 := fun (W : World) (g : Nat) m h => run_string1_at (P := Try.prog) 30 9 5 Try.underlying30 Try.underlying5 Try.underlying9 W g (D : Int) m h
          simp only [Int.toNat_natCast] at hcv1 hcv2 hcv3
          have ha1 := fun w => run_add_parts (P := Try.prog) (putL (zigN x).toNat) [UInt8.ofNat D] (by simp only [List.length_cons, List.length_nil]; omega) w
          have ha2 := fun w => run_add_parts (P := Try.prog) (putL (zigN x).toNat ++ [UInt8.ofNat D]) (packed L D) (by rw [List.length_append]; simp only [List.length_cons, List.length_nil]; omega) w
          rw [HT.out] at ha2
          have HCV3 := Lib.hid hcv3
          clear HT hput hpl hcv3 h8
          go_region_with (first
            | (go_at_call 17; (with_reducible refine (HPS _).out.mono ?_); rintro e w4 ⟨rfl, hb4⟩; try have hcv4 := fun m => HCV3.out w4 w3.heap.size m ((hb4.cell (by simp)).trans (cell_new1 w3 _ _))))
          all_goals go_wp2
          all_goals go_ret
          all_goals (first
            | exact RetB.mk rfl (bel_trans (hB2.alloc hB2.size (.cells #[.int .u8 (D : Int)] 5)).drew hb4)
            | exact RetB.mk rfl ((bel_trans hB2.drew hb4).alloc (bel_trans hB2.drew hb4).size (.cells #[.int .u8 (D : Int)] 5)))
end Go.Proofs.Ytjoohmifbkbpbaa
