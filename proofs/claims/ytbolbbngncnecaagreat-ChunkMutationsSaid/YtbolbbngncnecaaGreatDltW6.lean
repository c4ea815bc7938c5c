/- The walk over the reference's encoding of differences. -/
import Derived.Test.YtbolbbngncnecaaGreatGL
import Derived.Test.YtbolbbngncnecaaGreatG9
namespace Go.DL
open Go.RowKit Go.VB Go.VarM Go.BP Go.RL
/-- The greatest width so far. -/
def wmx (u : List Nat) : Nat := u.foldl (fun a x => max a (wid x)) 0
theorem wmx_fold : ∀ (u : List Nat) (a : Nat), u.foldl (fun a x => max a (wid x)) (wid a) = wid (u.foldl max a)
  | [], _ => rfl
  | x :: u, a => by rw [List.foldl_cons, List.foldl_cons, ← wid_max, wmx_fold u]
theorem wmx_all {u : List Nat} (h : u ≠ []) : wmx u = wid (gr u) := by
  have := wmx_fold u 0
  rw [wid_zero, gr_zero h] at this
  exact this
theorem wmx_snoc {u : List Nat} {j x : Nat} (h : u[j]? = some x) : wmx (u.take (j + 1)) = max (wmx (u.take j)) (wid x) := fold_snoc _ 0 h
theorem wmx_le {u : List Nat} (h : ∀ x ∈ u, x < 18446744073709551616) (j : Nat) : wmx (u.take j) ≤ 64 := by
  by_cases e : u.take j = []
  · rw [e]; decide
  · rw [wmx_all e]; exact wid_64 (h _ (List.mem_of_mem_take (gr_in e)))
theorem take_snocN {u : List Nat} {j x : Nat} (h : u[j]? = some x) : u.take (j + 1) = u.take j ++ [x] := by rw [List.take_add_one, h]; rfl
theorem u64_off {v m : Int} {o : Nat} (hge : m ≤ v) (hv : v ≤ 9223372036854775807) (hm : -9223372036854775808 ≤ m ∧ m ≤ 9223372036854775807) (ho : (v - m).toNat = o) : IntKind.u64.wrap (wrap64 (v - m)) = (o : Int) := by
  rw [IntKind.wrap_u64]; unfold wrap64; omega
end Go.DL
namespace Go.Proofs.YtbolbbngncnecaaGreat
open Go.RowKit Go.VB Go.VarM Go.BP Go.RL Go.DL
set_option maxRecDepth 100000 in
set_option maxHeartbeats 8000000 in
theorem rdencode_any (v : Value) (l : List Int) (B : Nat) (w : World) (hr : RdV (Value.int .i64) w B v l) (hB : B ≤ w.heap.size) (hi : I64 l) :
    Calls Tryz.prog 39 #[v] w (RetB (.string (str (encX l))) w) := by
  obtain ⟨A, c, rfl, hc1, hc2, hr'⟩ := hr
  have hr : RdV (Value.int .i64) w B (.slice A l.length c) l := ⟨A, c, rfl, hc1, hc2, hr'⟩
  unfold maxLen at hc2
  by_cases h4 : 4096 < l.length
  · rw [encX_out h4]
    have h0 : (((l.length : Nat) : Int) == 0) = false := beq_eq_false_iff_ne.2 (by omega)
    clear hr hr' hi
    go_enter Tryz.func39, Tryz.ntmps39
    go_wp2
    go_ret
    exact RetB.mk rfl (Below.refl _ _)
  obtain ⟨N, hN⟩ : ∃ N, l.length = N := ⟨_, rfl⟩
  rw [hN] at hr hc1 h4
  by_cases hn0 : N = 0
  · subst hn0
    obtain rfl : l = [] := List.eq_nil_of_length_eq_zero hN
    clear hr hr' hi
    go_enter Tryz.func39, Tryz.ntmps39
    go_wp2
    go_ret
    exact RetB.mk rfl (Below.refl _ _)
  have hN1 : 1 ≤ N := by omega
  obtain ⟨z, hz0⟩ : ∃ z, l[0]? = some z := ⟨_, List.getElem?_eq_getElem (by omega)⟩
  obtain ⟨ad, rfl, hab, hg0⟩ := hr' 0 z hz0
  rw [addr_zero] at hg0
  have hz := hi.at hz0
  have hex : encX l = putL (zigN z).toNat ++ encB (df l) := by
    cases l with
    | nil => simp at hz0
    | cons a r =>
      simp at hz0; subst hz0
      exact encX_in (by rw [hN]; omega)
  rw [hN, hex]
  have hld : (df l).length = N - 1 := by rw [df_len, hN]
  have hdi := df_i64 l
  have HDA := fun {i x y} (h1 : l[i]? = some x) (h2 : l[i + 1]? = some y) => df_at h1 h2
  generalize df l = D at *
  have hTl : (putL (zigN z).toNat ++ encB D).length ≤ 77834 := by
    have h1 := putL_len10 (zig_lt hz)
    have h2 := encB_len _ D (Nat.le_refl _) hdi
    rw [List.length_append]; omega
  obtain ⟨zz, hz1, hz2, hz3⟩ := zig_nat hz
  have HZ := fun w => rzig_any z w hz.1 hz.2
  rw [hz1] at HZ
  rw [hz2] at hTl ⊢
  have HZ0 := fun w => Lib.hid (HZ w)
  have HP0 := fun w => Lib.hid (rput_any zz w hz3)
  have h0 : ((N : Int) == 0) = false := beq_eq_false_iff_ne.2 (by omega)
  clear hr' hex hz hz0 hz1 hz2 HZ hn0 hi
  generalize hH : putL zz = H at *
  generalize hT : H ++ encB D = T at hTl
  have HT := Lib.hid hT; have HR := Lib.hid hr; have HN := Lib.hid hN; have HDL := Lib.hid hld; have HDI := Lib.hid hdi
  have HDA' := fun i x y h1 h2 => Lib.hid (@HDA i x y h1 h2)
  clear hT hr hN hld hdi HDA hH hz3
  go_enter Tryz.func39, Tryz.ntmps39
  go_wp2_with (first
    | (go_at_call 40; (with_reducible refine (HZ0 _).out.mono ?_); rintro e w' ⟨rfl, rfl⟩)
    | (go_at_call 15; (with_reducible refine (HP0 _).out.mono ?_); rintro e w3 ⟨rfl, hb⟩))
  go_loopw [3, 4] (fun v i wr => ∃ (bs : List UInt8) (k : Nat), v = .string (str bs) ∧ i = .int .i64 (k : Int) ∧ 1 ≤ k ∧ k ≤ N + 32 ∧ bs ++ encB (D.drop (k - 1)) = T ∧ Below w.heap.size w wr) (fun _ i _ => N + 40 - (intOf i).toNat)
  case atStart => exact ⟨_, 1, rfl, rfl, Nat.le_refl _, by omega, HT.out, hb⟩
  case round =>
    clear hb HZ0 HP0 hg0
    obtain ⟨bs, k, rfl, rfl, hk1, hk2, hs, hbel⟩ := hrel
    by_cases hlt : k < N
    · obtain ⟨F, hF⟩ : ∃ F : Nat, k + 32 = F := ⟨_, rfl⟩
      have hFi : (k : Int) + 32 = (F : Int) := by omega
      have hdne : D.drop (k - 1) ≠ [] := List.ne_nil_of_length_pos (by rw [List.length_drop, HDL.out]; omega)
      rw [encB_go hdne, ← List.append_assoc, List.drop_drop] at hs
      have hkF : k - 1 + 32 = F - 1 := by omega
      rw [hkF] at hs
      have htne := take_ne hdne
      have hi32 := i64_take (HDI.out.drop (k - 1)) 32
      have htl : ((D.drop (k - 1)).take 32).length = min 32 (N - k) := by rw [List.length_take, List.length_drop, HDL.out]; omega
      have hrd := HR.out.below (hbel.mono hB)
      have HTK : ∀ m x y, k ≤ m → m < F → l[m - 1]? = some x → l[m]? = some y → ((D.drop (k - 1)).take 32)[m - k]? = some (wrap64 (y - x)) := fun m x y h1 h2 h3 h4 => by
        rw [List.getElem?_take, if_pos (by omega), List.getElem?_drop, show k - 1 + (m - k) = m - 1 from by omega]
        exact (HDA' _ _ _ h3 (by rw [show m - 1 + 1 = m from by omega]; exact h4)).out
      generalize (D.drop (k - 1)).take 32 = d at *
      have hd0 : 0 < d.length := List.length_pos_iff.2 htne
      obtain ⟨y0, hy0⟩ : ∃ y, l[k]? = some y := ⟨_, List.getElem?_eq_getElem (by rw [HN.out]; exact hlt)⟩
      obtain ⟨x0, hx0⟩ : ∃ x, l[k - 1]? = some x := ⟨_, List.getElem?_eq_getElem (by rw [HN.out]; omega)⟩
      obtain ⟨_, e1, _, hgy⟩ := hrd.at hy0
      cases e1
      obtain ⟨_, e1, _, hgx⟩ := hrd.at hx0
      cases e1
      have hq0 := HTK k x0 y0 (Nat.le_refl _) (by omega) hx0 hy0
      rw [Nat.sub_self] at hq0
      have hhd : d.headD 0 = wrap64 (y0 - x0) := by cases d <;> simp_all
      have hlm : d.foldl min (wrap64 (y0 - x0)) = lst d := by rw [← hhd]; rfl
      generalize hQ : wrap64 (y0 - x0) = q at *
      have hqb := wrap_bd (y0 - x0)
      rw [hQ] at hqb
      have hmb := lst_bd hi32 htne
      have hol := offs_len d
      have hone := offs_ne htne
      have ho64 := offs_lt hi32 htne
      have hwl := wd_le hi32 htne
      have hpk := packR_ok (l := offs d) hwl (by rw [hol, htl]; omega) (offs_wd d)
      have hwg : wmx (offs d) = wd d := wmx_all hone
      have HOA := fun i x (h : d[i]? = some x) => offs_at h
      have hpl := packed_len (offs d) (wd d)
      have h8 := need8 (c := d.length) hwl
      rw [hol] at hpl
      have HLX := fun x (h : x ∈ d) => lst_le h
      have hBK : putL (zigN (lst d)).toNat ++ [UInt8.ofNat (wd d)] ++ packed (offs d) (wd d) = blk d := rfl
      have hput := putL_len10 (zig_lt hmb)
      obtain ⟨zm, hm1, hm2, hm3⟩ := zig_nat hmb
      have HZ := fun w => rzig_any (lst d) w hmb.1 hmb.2
      rw [hm1] at HZ
      rw [hm2] at hBK hput
      have HWM := fun {j x} (h : (offs d)[j]? = some x) => wmx_snoc h
      have HWL := fun j => wmx_le ho64 j
      generalize hO : offs d = O at *
      generalize hM : lst d = M at *
      generalize hW : wd d = W at *
      generalize hBKT : blk d = bk at *
      have HZM := fun w => Lib.hid (HZ w)
      have HPM := fun w => Lib.hid (rput_any zm w hm3)
      have hlen := congrArg List.length hs
      rw [List.length_append, List.length_append] at hlen
      have HLM := Lib.hid hlm; have HOA' := fun i x h => Lib.hid (HOA i x h)
      have HPK := Lib.hid hpk; have HWG := Lib.hid hwg; have HO64 := Lib.hid ho64
      have HBK := Lib.hid hBK; have HPL := Lib.hid hpl; have HOL := Lib.hid hol; have HLY := fun x h => Lib.hid (HLX x h); have HONE := Lib.hid hone
      have HS := Lib.hid hs; have HRD := Lib.hid hrd; have HTK' := fun m x y h1 h2 h3 h4 => Lib.hid (HTK m x y h1 h2 h3 h4); have HQ := Lib.hid hQ; have HI := Lib.hid hi32
      have HWM' := fun j x h => Lib.hid (@HWM j x h)
      have HFF := Lib.hid hF; have HTL := Lib.hid htl; have HLEN := Lib.hid hlen
      have hlb : bs.length ≤ 77834 := by omega
      have hHz := Lib.hid hm1
      have hdl32 : d.length ≤ 32 := by rw [htl]; omega
      clear hs hrd HTK hlm HOA hpk hwg ho64 hBK hpl hol HLX hone hO hM hW hBKT hQ hhd hq0 hx0 hy0 hkF hdne htne hi32 HWM HZ hm1 hm2 hm3 hHz hlen hF htl
      by_cases hFN : F ≤ N
      · have hE1 : k ≤ F ∧ F ≤ N ∧ d.length + k ≤ F ∧ F ≤ d.length + k ∧ F ≤ F := by have := HFF.out; have := HTL.out; omega
        obtain ⟨hE1, hE2, hE3, hE4, hE5⟩ := hE1
        go_wp2_with fail
        go_region
        go_wp2_with fail
        go_loopw [6, 7] (fun a i wk => ∃ (x : Int) (m : Nat), a = .int .i64 x ∧ i = .int .i64 m ∧ k ≤ m ∧ m ≤ F ∧ (d.take (m - k)).foldl min q = x ∧ Below w.heap.size w wk) (fun _ i _ => F - (intOf i).toNat)
        case atStart => exact ⟨q, k, vint HQ.out, rfl, Nat.le_refl _, hE1, by rw [Nat.sub_self]; rfl, hbel.drew⟩
        case round =>
          clear hgx hgy
          obtain ⟨x, m, rfl, rfl, hm1, hm2, hx, hbelk⟩ := hrel
          have HX := Lib.hid hx
          clear hx
          by_cases hmE : m < F
          · obtain ⟨yy, hyy⟩ : ∃ y, l[m]? = some y := ⟨_, List.getElem?_eq_getElem (by rw [HN.out]; omega)⟩
            obtain ⟨xx, hxx⟩ : ∃ x, l[m - 1]? = some x := ⟨_, List.getElem?_eq_getElem (by rw [HN.out]; omega)⟩
            obtain ⟨_, e1, _, hgy⟩ := (HR.out.below (hbelk.mono hB)).at hyy
            cases e1
            obtain ⟨_, e1, _, hgx⟩ := (HR.out.below (hbelk.mono hB)).at hxx
            cases e1
            have hm1' : 1 ≤ m := by omega
            have hdm := (HTK' m xx yy hm1 (by omega) hxx hyy).out
            have HSN := Lib.hid (fold_snoc min q hdm)
            clear hxx hyy hdm
            go_wp2_with fail
            go_region
            go_wp2_with fail
            go_roundw
            case rel => exact ⟨min x (wrap64 (yy - xx)), m + 1, vint (by split <;> omega), by go_num, by omega, hmE, by rw [show m + 1 - k = m - k + 1 from by omega, HSN.out, HX.out], hbelk.drew⟩
            case measure => simp [intOf] <;> omega
          · have hx : x = M := by rw [← HX.out, ← HLM.out, List.take_of_length_le (by omega)]
            subst hx
            clear HX HLM
            go_wp2_with fail
            clear hmE
            go_loopw [8, 9, 10] (fun v b i wk => ∃ (U : List Nat) (y m : Nat), b = .int .i64 y ∧ i = .int .i64 m ∧ k ≤ m ∧ m ≤ F ∧ OwnN .u64 47 wk w.heap.size v U ∧ U = O.take (m - k) ∧ y = wmx (O.take (m - k)) ∧ Below w.heap.size w wk) (fun _ _ i _ => F - (intOf i).toNat)
            case atStart => exact ⟨[], 0, k, rfl, rfl, Nat.le_refl _, hE1, OwnN.nil _ _ _ _, by rw [Nat.sub_self]; rfl, by rw [Nat.sub_self]; rfl, hbelk⟩
            case round =>
              clear hbelk
              rename_i mOld _ _ _
              clear hm1 hm2
              obtain ⟨U, y, m, rfl, rfl, hm1, hm2, hown, hU, hy, hbelk⟩ := hrel
              have hUl : U.length ≤ 32 := by rw [hU, List.length_take, HOL.out]; omega
              have hyl : y ≤ 64 := by rw [hy]; exact HWL _
              have HU := Lib.hid hU; have HY := Lib.hid hy
              clear hU hy
              by_cases hmE : m < F
              · obtain ⟨yy, hyy⟩ : ∃ y, l[m]? = some y := ⟨_, List.getElem?_eq_getElem (by rw [HN.out]; omega)⟩
                obtain ⟨xx, hxx⟩ : ∃ x, l[m - 1]? = some x := ⟨_, List.getElem?_eq_getElem (by rw [HN.out]; omega)⟩
                obtain ⟨_, e1, _, hgy⟩ := (HR.out.below (hbelk.mono hB)).at hyy
                cases e1
                obtain ⟨_, e1, _, hgx⟩ := (HR.out.below (hbelk.mono hB)).at hxx
                cases e1
                have hm1' : 1 ≤ m := by omega
                have hdm := (HTK' m xx yy hm1 (by omega) hxx hyy).out
                have hge := (HLY _ (List.mem_of_getElem? hdm)).out
                have hom := (HOA' _ _ hdm).out
                have HSM := Lib.hid (HWM' _ _ hom).out
                have HTS := Lib.hid (take_snocN hom)
                have ho64 := HO64.out _ (List.mem_of_getElem? hom)
                obtain ⟨o, ho⟩ : ∃ o : Nat, (wrap64 (yy - xx) - x).toNat = o := ⟨_, rfl⟩
                rw [ho] at HSM HTS ho64
                have hwb := wrap_bd (yy - xx)
                have hE := u64_off hge hwb.2 hmb ho
                have HE := Lib.hid hE
                have HWD := fun w => Lib.hid (rwidth_any o w ho64)
                have hwo := wid_64 ho64
                clear hxx hyy hdm hom hge hwb ho hE
                go_wp2_with fail
                go_region
                rw [HE.out]
                have hrw := hbelk.drew.size
                replace hown : OwnN .u64 47 wr.drew w.heap.size _ U := hown
                replace hbelk := hbelk.drew
                clear hgx hgy HE
                generalize wr.drew = wd1 at *
                go_wp2_with (first
                  | (go_at_call 61; (with_reducible refine (HWD _).out.mono ?_); rintro e w' ⟨rfl, rfl⟩)
                  | (at_builtin; refine wpl_appN rfl _ _ 94 rfl w.heap.size 47 .u64 8 Tryz.underlying94 Tryz.infoU64 _ U rfl (hown.alloc _) (wd1.heap.size + 1) _ [o] rfl (RdN.one _ _ _ _ _ (by decide) (by decide)) (by unfold maxLen; simp; omega) (by simp; omega) (by simp; omega) ?_; intro v3 w3 hown3 hb3 _; have hbel3 := (hbelk.alloc hrw (.cells #[.int .u64 (o : Int)] 47)).trans hb3; clear hown hb3))
                go_roundw
                case rel => exact ⟨U ++ [o], max y (wid o), m + 1, vint (by split <;> omega), by go_num, by omega, hmE, hown3, by rw [show m + 1 - k = m - k + 1 from by omega, HTS.out, HU.out], by rw [show m + 1 - k = m - k + 1 from by omega, HSM.out, HY.out], hbel3⟩
                case measure => simp [intOf] <;> omega
              · have htk : O.take (m - k) = O := List.take_of_length_le (by rw [HOL.out]; omega)
                have hUO : U = O := by rw [HU.out, htk]
                have hyW : y = W := by rw [HY.out, htk, HWG.out]
                subst hUO; subst hyW
                have hrd2 := hown.read
                have HPK2 := Lib.hid (rpack_eq _ U (y : Nat) _ _ hrd2 (Nat.le_refl _) HO64.out HPK.out)
                clear HU HY htk hrd2 HWG HPK HO64 hown
                go_wp2_with fail
                refine HPK2.out.mono ?_; rintro e w3 ⟨rfl, hb3⟩
                have hB2 := bel_trans hbelk hb3
                have hpl := HPL.out
                have hbkl := congrArg List.length HBK.out
                rw [List.length_append, List.length_append] at hbkl
                simp only [List.length_cons, List.length_nil] at hbkl
                clear HPK2 hb3 hmE
                go_wp2_with fail
                have hw8 : IntKind.u8.wrap (y : Int) = (y : Int) := by simp [IntKind.wrap, IntKind.bits, IntKind.signed]; omega
                have hcv1 := fun (W : World) m => run_string1 (P := Tryz.prog) 30 9 5 Tryz.underlying30 Tryz.underlying5 Tryz.underlying9 W (y : Int) m
                have hcv2 := fun (W : World) m => run_string1_drew (P := Tryz.prog) 30 9 5 Tryz.underlying30 Tryz.underlying5 Tryz.underlying9 W (y : Int) m
                have hcv3 := fun (W : World) (g : Nat) m h => run_string1_at (P := Tryz.prog) 30 9 5 Tryz.underlying30 Tryz.underlying5 Tryz.underlying9 W g (y : Int) m h
                simp only [Int.toNat_natCast] at hcv1 hcv2 hcv3
                have ha1 := fun w => run_add_parts (P := Tryz.prog) (putL zm) [UInt8.ofNat y] (by simp only [List.length_cons, List.length_nil]; omega) w
                have ha2 := fun w => run_add_parts (P := Tryz.prog) (putL zm ++ [UInt8.ofNat y]) (packed U y) (by rw [List.length_append]; simp only [List.length_cons, List.length_nil]; omega) w
                rw [HBK.out] at ha2
                have ha3 := fun w => run_add_parts (P := Tryz.prog) bs bk (by omega) w
                have HCV3 := Lib.hid hcv3
                clear HBK hput hpl hcv3 h8 hbkl HPL HOL HLY HONE HOA' HWM' HTK' HRD HI HQ HWL
                go_region_with (first
                  | (go_at_call 40; (with_reducible refine (HZM _).out.mono ?_); rintro e w' ⟨rfl, rfl⟩)
                  | (go_at_call 15; (with_reducible refine (HPM _).out.mono ?_); rintro e w4 ⟨rfl, hb4⟩; try have hcv4 := fun m => HCV3.out w4 w3.heap.size m ((hb4.cell (by simp)).trans (cell_new1 w3 _ _))))
                all_goals
                  go_wp2_with fail
                  go_roundw
                  case rel => exact ⟨bs ++ bk, F, rfl, (by first | rfl | exact vint hFi), by omega, by omega, HS.out, (by first
                    | exact bel_trans (hB2.alloc hB2.size (.cells #[.int .u8 (y : Int)] 5)).drew hb4
                    | exact (bel_trans hB2.drew hb4).alloc (bel_trans hB2.drew hb4).size (.cells #[.int .u8 (y : Int)] 5))⟩
                  case measure => simp [intOf] <;> omega
      · have hE1 : k ≤ N ∧ N ≤ N ∧ d.length + k ≤ N ∧ N ≤ d.length + k ∧ N ≤ F := by have := HFF.out; have := HTL.out; omega
        obtain ⟨hE1, hE2, hE3, hE4, hE5⟩ := hE1
        go_wp2_with fail
        go_region
        go_wp2_with fail
        go_loopw [6, 7] (fun a i wk => ∃ (x : Int) (m : Nat), a = .int .i64 x ∧ i = .int .i64 m ∧ k ≤ m ∧ m ≤ N ∧ (d.take (m - k)).foldl min q = x ∧ Below w.heap.size w wk) (fun _ i _ => N - (intOf i).toNat)
        case atStart => exact ⟨q, k, vint HQ.out, rfl, Nat.le_refl _, hE1, by rw [Nat.sub_self]; rfl, hbel.drew⟩
        case round =>
          clear hgx hgy
          obtain ⟨x, m, rfl, rfl, hm1, hm2, hx, hbelk⟩ := hrel
          have HX := Lib.hid hx
          clear hx
          by_cases hmE : m < N
          · obtain ⟨yy, hyy⟩ : ∃ y, l[m]? = some y := ⟨_, List.getElem?_eq_getElem (by rw [HN.out]; omega)⟩
            obtain ⟨xx, hxx⟩ : ∃ x, l[m - 1]? = some x := ⟨_, List.getElem?_eq_getElem (by rw [HN.out]; omega)⟩
            obtain ⟨_, e1, _, hgy⟩ := (HR.out.below (hbelk.mono hB)).at hyy
            cases e1
            obtain ⟨_, e1, _, hgx⟩ := (HR.out.below (hbelk.mono hB)).at hxx
            cases e1
            have hm1' : 1 ≤ m := by omega
            have hdm := (HTK' m xx yy hm1 (by omega) hxx hyy).out
            have HSN := Lib.hid (fold_snoc min q hdm)
            clear hxx hyy hdm
            go_wp2_with fail
            go_region
            go_wp2_with fail
            go_roundw
            case rel => exact ⟨min x (wrap64 (yy - xx)), m + 1, vint (by split <;> omega), by go_num, by omega, hmE, by rw [show m + 1 - k = m - k + 1 from by omega, HSN.out, HX.out], hbelk.drew⟩
            case measure => simp [intOf] <;> omega
          · have hx : x = M := by rw [← HX.out, ← HLM.out, List.take_of_length_le (by omega)]
            subst hx
            clear HX HLM
            go_wp2_with fail
            clear hmE
            go_loopw [8, 9, 10] (fun v b i wk => ∃ (U : List Nat) (y m : Nat), b = .int .i64 y ∧ i = .int .i64 m ∧ k ≤ m ∧ m ≤ N ∧ OwnN .u64 47 wk w.heap.size v U ∧ U = O.take (m - k) ∧ y = wmx (O.take (m - k)) ∧ Below w.heap.size w wk) (fun _ _ i _ => N - (intOf i).toNat)
            case atStart => exact ⟨[], 0, k, rfl, rfl, Nat.le_refl _, hE1, OwnN.nil _ _ _ _, by rw [Nat.sub_self]; rfl, by rw [Nat.sub_self]; rfl, hbelk⟩
            case round =>
              clear hbelk
              rename_i mOld _ _ _
              clear hm1 hm2
              obtain ⟨U, y, m, rfl, rfl, hm1, hm2, hown, hU, hy, hbelk⟩ := hrel
              have hUl : U.length ≤ 32 := by rw [hU, List.length_take, HOL.out]; omega
              have hyl : y ≤ 64 := by rw [hy]; exact HWL _
              have HU := Lib.hid hU; have HY := Lib.hid hy
              clear hU hy
              by_cases hmE : m < N
              · obtain ⟨yy, hyy⟩ : ∃ y, l[m]? = some y := ⟨_, List.getElem?_eq_getElem (by rw [HN.out]; omega)⟩
                obtain ⟨xx, hxx⟩ : ∃ x, l[m - 1]? = some x := ⟨_, List.getElem?_eq_getElem (by rw [HN.out]; omega)⟩
                obtain ⟨_, e1, _, hgy⟩ := (HR.out.below (hbelk.mono hB)).at hyy
                cases e1
                obtain ⟨_, e1, _, hgx⟩ := (HR.out.below (hbelk.mono hB)).at hxx
                cases e1
                have hm1' : 1 ≤ m := by omega
                have hdm := (HTK' m xx yy hm1 (by omega) hxx hyy).out
                have hge := (HLY _ (List.mem_of_getElem? hdm)).out
                have hom := (HOA' _ _ hdm).out
                have HSM := Lib.hid (HWM' _ _ hom).out
                have HTS := Lib.hid (take_snocN hom)
                have ho64 := HO64.out _ (List.mem_of_getElem? hom)
                obtain ⟨o, ho⟩ : ∃ o : Nat, (wrap64 (yy - xx) - x).toNat = o := ⟨_, rfl⟩
                rw [ho] at HSM HTS ho64
                have hwb := wrap_bd (yy - xx)
                have hE := u64_off hge hwb.2 hmb ho
                have HE := Lib.hid hE
                have HWD := fun w => Lib.hid (rwidth_any o w ho64)
                have hwo := wid_64 ho64
                clear hxx hyy hdm hom hge hwb ho hE
                go_wp2_with fail
                go_region
                rw [HE.out]
                have hrw := hbelk.drew.size
                replace hown : OwnN .u64 47 wr.drew w.heap.size _ U := hown
                replace hbelk := hbelk.drew
                clear hgx hgy HE
                generalize wr.drew = wd1 at *
                go_wp2_with (first
                  | (go_at_call 61; (with_reducible refine (HWD _).out.mono ?_); rintro e w' ⟨rfl, rfl⟩)
                  | (at_builtin; refine wpl_appN rfl _ _ 94 rfl w.heap.size 47 .u64 8 Tryz.underlying94 Tryz.infoU64 _ U rfl (hown.alloc _) (wd1.heap.size + 1) _ [o] rfl (RdN.one _ _ _ _ _ (by decide) (by decide)) (by unfold maxLen; simp; omega) (by simp; omega) (by simp; omega) ?_; intro v3 w3 hown3 hb3 _; have hbel3 := (hbelk.alloc hrw (.cells #[.int .u64 (o : Int)] 47)).trans hb3; clear hown hb3))
                go_roundw
                case rel => exact ⟨U ++ [o], max y (wid o), m + 1, vint (by split <;> omega), by go_num, by omega, hmE, hown3, by rw [show m + 1 - k = m - k + 1 from by omega, HTS.out, HU.out], by rw [show m + 1 - k = m - k + 1 from by omega, HSM.out, HY.out], hbel3⟩
                case measure => simp [intOf] <;> omega
              · have htk : O.take (m - k) = O := List.take_of_length_le (by rw [HOL.out]; omega)
                have hUO : U = O := by rw [HU.out, htk]
                have hyW : y = W := by rw [HY.out, htk, HWG.out]
                subst hUO; subst hyW
                have hrd2 := hown.read
                have HPK2 := Lib.hid (rpack_eq _ U (y : Nat) _ _ hrd2 (Nat.le_refl _) HO64.out HPK.out)
                clear HU HY htk hrd2 HWG HPK HO64 hown
                go_wp2_with fail
                refine HPK2.out.mono ?_; rintro e w3 ⟨rfl, hb3⟩
                have hB2 := bel_trans hbelk hb3
                have hpl := HPL.out
                have hbkl := congrArg List.length HBK.out
                rw [List.length_append, List.length_append] at hbkl
                simp only [List.length_cons, List.length_nil] at hbkl
                clear HPK2 hb3 hmE
                go_wp2_with fail
                have hw8 : IntKind.u8.wrap (y : Int) = (y : Int) := by simp [IntKind.wrap, IntKind.bits, IntKind.signed]; omega
                have hcv1 := fun (W : World) m => run_string1 (P := Tryz.prog) 30 9 5 Tryz.underlying30 Tryz.underlying5 Tryz.underlying9 W (y : Int) m
                have hcv2 := fun (W : World) m => run_string1_drew (P := Tryz.prog) 30 9 5 Tryz.underlying30 Tryz.underlying5 Tryz.underlying9 W (y : Int) m
                have hcv3 := fun (W : World) (g : Nat) m h => run_string1_at (P := Tryz.prog) 30 9 5 Tryz.underlying30 Tryz.underlying5 Tryz.underlying9 W g (y : Int) m h
                simp only [Int.toNat_natCast] at hcv1 hcv2 hcv3
                have ha1 := fun w => run_add_parts (P := Tryz.prog) (putL zm) [UInt8.ofNat y] (by simp only [List.length_cons, List.length_nil]; omega) w
                have ha2 := fun w => run_add_parts (P := Tryz.prog) (putL zm ++ [UInt8.ofNat y]) (packed U y) (by rw [List.length_append]; simp only [List.length_cons, List.length_nil]; omega) w
                rw [HBK.out] at ha2
                have ha3 := fun w => run_add_parts (P := Tryz.prog) bs bk (by omega) w
                have HCV3 := Lib.hid hcv3
                clear HBK hput hpl hcv3 h8 hbkl HPL HOL HLY HONE HOA' HWM' HTK' HRD HI HQ HWL
                go_region_with (first
                  | (go_at_call 40; (with_reducible refine (HZM _).out.mono ?_); rintro e w' ⟨rfl, rfl⟩)
                  | (go_at_call 15; (with_reducible refine (HPM _).out.mono ?_); rintro e w4 ⟨rfl, hb4⟩; try have hcv4 := fun m => HCV3.out w4 w3.heap.size m ((hb4.cell (by simp)).trans (cell_new1 w3 _ _))))
                all_goals
                  go_wp2_with fail
                  go_roundw
                  case rel => exact ⟨bs ++ bk, F, rfl, (by first | rfl | exact vint hFi), by omega, by omega, HS.out, (by first
                    | exact bel_trans (hB2.alloc hB2.size (.cells #[.int .u8 (y : Int)] 5)).drew hb4
                    | exact (bel_trans hB2.drew hb4).alloc (bel_trans hB2.drew hb4).size (.cells #[.int .u8 (y : Int)] 5))⟩
                  case measure => simp [intOf] <;> omega
    · have hdn : D.drop (k - 1) = [] := List.drop_eq_nil_of_le (by rw [HDL.out]; omega)
      rw [hdn, encB_nil, List.append_nil] at hs
      have HS := Lib.hid hs; clear hs hdn
      go_wp2
      go_ret
      exact RetB.mk (by rw [HS.out]; rfl) hbel
end Go.Proofs.YtbolbbngncnecaaGreat
