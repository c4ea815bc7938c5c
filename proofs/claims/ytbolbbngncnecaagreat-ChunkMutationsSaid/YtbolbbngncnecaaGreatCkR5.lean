/- The walks over the reference's chunks, read: plainValues. -/
import Derived.Test.YtbolbbngncnecaaGreatCkR4
namespace Go.Proofs.YtbolbbngncnecaaGreat
open Go.RowKit Go.VB Go.VarM Go.BP Go.RL Go.VS Go.VL Go.DI Go.CK Go.NU
set_option maxRecDepth 100000 in
set_option maxHeartbeats 1000000 in
theorem plainV_any (typ : Int) (s : ByteArray) (n : Nat) (W : World) (zs : s.size ≤ 140737488351232) (hn : n ≤ 4096) : Calls Tryz.prog 94 #[.int .i64 typ, .string s, .int .i64 (n : Int)] W (PlP (plainD typ s n 0 []) W) := by
  have HST := Lib.hid (plain_step typ s)
  have HDE := Lib.hid (fun (p : Int) (acc : List Vl) (h : p = s.size) => plainD_end (typ := typ) (s := s) (p := p) (acc := acc) h)
  have HDL := Lib.hid (fun (p : Int) (acc : List Vl) (h : ¬ p = s.size) => plainD_left (typ := typ) (s := s) (p := p) (acc := acc) h)
  have H3 := Lib.hid (Classical.em (typ = 3))
  generalize hD : plainD typ s n 0 [] = D
  have HD := Lib.hid hD; clear hD
  go_enter Tryz.func94, Tryz.ntmps94
  go_wp2
  go_loopw [6, 7, 8, 9] (fun r1 r2 ov q wr => ∃ (p : Int) (acc : List Vl), r1 = .slice none 0 0 ∧ r2 = .bool false ∧ q = .int .i64 p ∧ acc.length ≤ n ∧ OwnL 42 wr W.heap.size ov acc ∧ plainD typ s (n - acc.length) p acc = D ∧ Below W.heap.size W wr) (fun _ _ ov _ _ => n - lenV ov)
  case atStart => exact ⟨0, [], rfl, rfl, rfl, Nat.zero_le _, OwnL.nil _ _ _, HD.out, Below.refl _ _⟩
  case round =>
    obtain ⟨p, acc, rfl, rfl, rfl, hlen, hown, hpd, hbel⟩ := hrel
    obtain ⟨A0, c0, _, rfl, rfl, hc1, hc2⟩ := hown.read.bds
    have HPD := Lib.hid hpd; clear hpd
    by_cases hlt : acc.length < n
    · have HS := Lib.hid (HST.out (n - (acc.length + 1)) p acc)
      rw [show n - (acc.length + 1) + 1 = n - acc.length from by omega, HPD.out] at HS
      obtain ⟨a, b, ec, hg⟩ : ∃ a b ec, getR s p = (a, b, ec) := ⟨_, _, _, rfl⟩
      have HG := fun w => Lib.hid (rget_is s p w (by unfold maxLen; omega) hg)
      have hszb := hbel.size
      by_cases he : ec = 0
      · subst he
        obtain ⟨kk, mm, -, rfl, -, hkm, -, ha64⟩ := getR_zero hg
        have hgn : getR s p = (a, ((kk + mm : Nat) : Int), 0) := by rw [hg]; push_cast; rfl
        obtain ⟨b, hb⟩ : ∃ b, kk + mm = b := ⟨_, rfl⟩
        have hbI : ((kk : Int) + (mm : Int)) = (b : Int) := by omega
        rw [hb] at hgn hkm
        rw [hbI] at HG hg
        clear hb hbI
        have HGN := Lib.hid hgn
        clear hg hgn
        rcases H3.out with h3 | h3
        · have HLT := Lib.hid (fun (h : s.size < b + a) => (show (s.size : Int) - (b : Int) < (a : Int) by omega))
          have HL1 := Lib.hid (show acc.length + 1 ≤ 1000000 by omega)
          obtain ⟨f1, f2, f3, f4⟩ := pt_facts (a := a) zs hkm
          have F1 := Lib.hid f1; have F2 := Lib.hid f2
          clear f1 f2
          have e3 : (typ != 3) = false := by rw [h3]; rfl
          have F3 := Lib.hid f3; have F4 := Lib.hid f4
          clear f3 f4
          by_cases hl : s.size < b + a
          · have HN := Lib.hid (show D = none by rw [HS.out, h3, pv1_long HGN.out (HLT.out hl)]; rfl)
            have hd := F3.out hl
            have f1 := F1.out; have f2 := F2.out
            clear hl h3 F3 F4 hown ha64
            go_wp2_with fail
            (with_reducible refine (HG _).out.mono ?_); rintro e w2 ⟨rfl, rfl⟩
            go_wp2
            go_ret2
            exact PlP.mk rfl (RdL.nil _ _) (.inr ⟨rfl, HN.out⟩) hbel
          · have G := Lib.hid (F4.out (Nat.le_of_not_lt hl))
            have HN := Lib.hid (show D = plainD typ s (n - (acc.length + 1)) ((b : Int) + a) (acc ++ [⟨false, 0, s.extract b (b + a)⟩]) by rw [HS.out, h3, pv1_text HGN.out (Nat.le_of_not_lt hl)]; rfl)
            have hIA : ((b + a : Nat) : Int) = (b : Int) + (a : Int) := by push_cast; rfl
            have HIA := Lib.hid hIA
            obtain ⟨X, hX⟩ : ∃ X, s.extract b (b + a) = X := ⟨_, rfl⟩
            rw [hX] at HN
            clear hl h3 F3 F4 ha64 hIA HLT
            have HX2 : Hid (RdL (wr.alloc (.cells #[.bool false, .int .i64 0, .string X] 42)) (wr.heap.size + 1) (.slice (some ⟨wr.heap.size, 0, none⟩) 1 1) [⟨false, 0, X⟩]) := Lib.hid (RdL.lit wr [⟨false, 0, X⟩] 1 42 (Nat.le_refl 1) (by decide))
            have HO := Lib.hid (hown.alloc (.cells #[.bool false, .int .i64 0, .string X] 42))
            have HBA := Lib.hid (hbel.alloc hszb (.cells #[.bool false, .int .i64 0, .string X] 42))
            replace HL1 : Hid (acc.length + [(⟨false, 0, X⟩ : Vl)].length ≤ 1000000) := HL1
            have HL3 := Lib.hid HBA.out.size
            obtain ⟨g1, g2, g3, g4, g5⟩ := G.out
            have f1 := F1.out; have f2 := F2.out
            clear hown hbel
            go_wp2_with fail
            (with_reducible refine (HG _).out.mono ?_); rintro e w2 ⟨rfl, rfl⟩
            go_wp2_with (at_builtin; refine wpl_appL rfl _ _ 28 rfl W.heap.size 42 Tryz.underlying28 Tryz.infVal _ acc rfl HO.out _ _ [⟨false, 0, X⟩] rfl HX2.out HL1.out HL3.out ?_)
            intro v' w' hown' hb' _
            obtain ⟨A9, c9, _, rfl, h9, -, -⟩ := hown'.read.bds
            have H9 := Lib.hid h9
            go_wp2_with fail
            go_roundw
            case rel => exact ⟨_, acc ++ [⟨false, 0, X⟩], rfl, rfl, rfl, by rw [List.length_append]; exact hlt, hown', by rw [List.length_append]; first | exact HN.out.symm | (rw [HIA.out]; exact HN.out.symm), HBA.out.trans hb'⟩
            case measure => simp only [lenV]; rw [H9.out]; rw [List.length_append]; simp only [List.length_cons, List.length_nil]; omega
        · have e3 : (typ != 3) = true := ine_t h3
          have HN := Lib.hid (show D = plainD typ s (n - (acc.length + 1)) (b : Int) (acc ++ [⟨false, zagN a, ⟨#[]⟩⟩]) by rw [HS.out, pv1_num HGN.out h3]; rfl)
          have HZ := fun w => Lib.hid (rzag_any (a : Int) w (by omega) (by omega))
          generalize zagN a = z at *
          clear h3 ha64
          have HX2 : Hid (RdL (wr.alloc (.cells #[.bool false, .int .i64 z, .string ⟨#[]⟩] 42)) (wr.heap.size + 1) (.slice (some ⟨wr.heap.size, 0, none⟩) 1 1) [⟨false, z, ⟨#[]⟩⟩]) := Lib.hid (RdL.lit wr [⟨false, z, ⟨#[]⟩⟩] 1 42 (Nat.le_refl 1) (by decide))
          have HO := Lib.hid (hown.alloc (.cells #[.bool false, .int .i64 z, .string ⟨#[]⟩] 42))
          have HBA := Lib.hid (hbel.alloc hszb (.cells #[.bool false, .int .i64 z, .string ⟨#[]⟩] 42))
          have HL1 := Lib.hid (show acc.length + [(⟨false, z, ⟨#[]⟩⟩ : Vl)].length ≤ 1000000 by simp only [List.length_cons, List.length_nil]; omega)
          have HL3 := Lib.hid HBA.out.size
          clear hown hbel
          go_wp2_with fail
          (with_reducible refine (HG _).out.mono ?_); rintro e w2 ⟨rfl, rfl⟩
          go_wp2_with fail
          (with_reducible refine (HZ _).out.mono ?_); rintro e w2 ⟨rfl, rfl⟩
          go_wp2_with (at_builtin; refine wpl_appL rfl _ _ 28 rfl W.heap.size 42 Tryz.underlying28 Tryz.infVal _ acc rfl HO.out _ _ [⟨false, z, ⟨#[]⟩⟩] rfl HX2.out HL1.out HL3.out ?_)
          intro v' w' hown' hb' _
          obtain ⟨A9, c9, _, rfl, h9, -, -⟩ := hown'.read.bds
          have H9 := Lib.hid h9
          go_wp2_with fail
          go_roundw
          case rel => exact ⟨_, acc ++ [⟨false, z, ⟨#[]⟩⟩], rfl, rfl, rfl, by rw [List.length_append]; exact hlt, hown', by rw [List.length_append]; exact HN.out.symm, HBA.out.trans hb'⟩
          case measure => simp only [lenV]; rw [H9.out]; rw [List.length_append]; simp only [List.length_cons, List.length_nil]; omega
      · have HN := Lib.hid (show D = none by rw [HS.out, pv1_e hg he]; rfl)
        have hd : ((ec : Int) != 0) = true := chkE_ne he
        clear he hg hown
        go_wp2_with fail
        (with_reducible refine (HG _).out.mono ?_); rintro e w2 ⟨rfl, rfl⟩
        go_wp2
        go_ret2
        exact PlP.mk rfl (RdL.nil _ _) (.inr ⟨rfl, HN.out⟩) hbel
    · have HZ := HPD.out
      rw [show n - acc.length = 0 from by omega] at HZ
      have HZ := Lib.hid HZ
      have hr := hown.read
      by_cases hp : p = s.size
      · have HE := Lib.hid (HZ.out.symm.trans (HDE.out p acc hp))
        have hd : (p == (s.size : Int)) = true := ieq_t hp
        clear hown hp
        go_wp2
        go_ret2
        exact PlP.mk rfl hr (.inl ⟨rfl, HE.out⟩) hbel
      · have HE := Lib.hid (HZ.out.symm.trans (HDL.out p acc hp))
        have hd : (p == (s.size : Int)) = false := ieq_f hp
        clear hown hp
        go_wp2
        go_ret2
        exact PlP.mk rfl hr (.inr ⟨rfl, HE.out⟩) hbel
end Go.Proofs.YtbolbbngncnecaaGreat
