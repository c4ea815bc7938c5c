/- BatchSplitIsWhole. -/
import Derived.Test.YtjbkeipagdmlpaaBtP
import Derived.Test.YtjbkeipagdmlpaaBt6b
import Derived.Test.YtjbkeipagdmlpaaBtO
namespace Go.Proofs.Ytjbkeipagdmlpaa
open Go.RowKit Go.VB Go.VS Go.SC Go.CK Go.ST Go.MK Go.RS Go.ChangeShapes Go.WideShapes Go.ChangeAt
set_option linter.constructorNameAsVariable false
set_option maxRecDepth 100000 in
set_option maxHeartbeats 4000000 in
theorem batchSplitIsWhole_lifted (os : Os) (started : os.Started) (H : Type) (enc : TypeId × Value → H) :
    ReturnsInHanded {} Try.checked os 10 .any (Rows.batchSplitIsWholeSpec.pre6 enc Try.prog Try.f10 Rows.batchSplitIsWholeRow.domain false) (Rows.batchSplitIsWholeSpec.post enc Try.prog Try.f10 false true false false) := by
  refine law_lifted (C := Try.checked) (tb := 4) started Try.own Try.laidOut (by kernel_rfl) Try.func10
    (ChangeSpec.witness6 (enc := enc) (C := Try.checked) false ⟨#[], #[.slice none 0 0, .slice none 0 0, .int .i64 0], []⟩ 8 (by kernel_rfl) (by kernel_rfl) (by kernel_rfl) (by kernel_rfl))
    rfl rfl Try.underlying4 (by kernel_rfl) (fun ds h => ?_) (fun W base args ds p hval0 hA0 hsz0 hlt => ?_)
  · have h' : ds.length = Try.f10.params.toList.length := h
    rw [Try.params10] at h'
    match ds, h' with
    | [_, _, _], _ => rfl
  · have hval : ∀ (j : Nat) t v, Try.f10.params[j]? = some t → args[j]? = some v → Value.okWide Try.prog W .any base t v := hval0
    have hA : DataW.TrodAll enc Try.prog W 0 (fun _ => true) true Try.f10.params.toList args.toList ds p := hA0
    have hsz : (DataW.weightsEach Try.prog Try.f10.params.toList ds).all (· ≤ reachBytes) = true := hsz0
    rw [Try.params10] at hA hval hsz
    clear hA0 hval0 hsz0
    obtain ⟨v0, vs0, d0, ds0, p0, q0, hargs, rfl, rfl, h0, r0⟩ := trodAll_cons hA
    obtain ⟨v1, vs1, d1, ds1, p1, q1, rfl, rfl, rfl, h1, r1⟩ := trodAll_cons r0
    obtain ⟨v2, vs2, d2, ds2, p2, q2, rfl, rfl, rfl, h2, r2⟩ := trodAll_cons r1
    obtain ⟨rfl, rfl, rfl⟩ := trodAll_nil r2
    obtain rfl : args = #[v0, v1, v2] := by cases args; simp_all
    obtain ⟨zx, rx, wx, bx⟩ := open_rdI Try.underlying30 Try.underlying3 (by kernel_rfl) (hval 0 30 v0 rfl rfl) h0 hsz (j := 0) rfl rfl
    obtain ⟨zl, rl, wl, bl⟩ := open_rdI Try.underlying30 Try.underlying3 (by kernel_rfl) (hval 1 30 v1 rfl rfl) h1 hsz (j := 1) rfl rfl
    obtain ⟨n, rfl, rfl, rfl, wn⟩ := open_int Try.underlying3 (hval 2 3 v2 rfl rfl) h2
    change Calls Try.prog 10 #[v0, v1, .int .i64 n] W (RetB (.bool true) W)
    have hK := Lib.hid (kSch_any W v0 zx rx wx)
    have hP := fun w => Lib.hid (pick_at n 5 w wn (by omega) (by omega))
    have hp := pickN_bd n (n := 5) (by omega)
    generalize pickN n 5 = p at *
    obtain ⟨p1, p2⟩ := hp
    obtain ⟨K, hKp⟩ : ∃ K : Nat, K = (1 + p).toNat := ⟨_, rfl⟩
    have hadd : wrap64 (1 + p) = (K : Int) := by unfold wrap64; omega
    have hK1 : 1 ≤ K := by omega
    have hK5 : K ≤ 5 := by omega
    have hadd2 : 1 + p = (K : Int) := by omega
    have HADD := Lib.hid hadd; have HADD2 := Lib.hid hadd2
    clear hKp p1 p2 hadd hadd2
    go_enter Try.func10, Try.ntmps10
    go_wp2_with fail
    (with_reducible refine hK.out.mono ?_); rintro e w1 ⟨hb1, yv, ycs, yk, rfl, hoy, hko⟩
    have hyr := OwnC.read hoy
    have hL0 := kloose_any w1 ycs yv yk v1 zl 12 (by decide) hyr (kok_12 hko) (kok_ty hko) (rl.step hb1) wl
    rw [show ((12 : Nat) : Int) = 12 from rfl] at hL0
    have hL := Lib.hid hL0
    clear hK hoy hyr hL0
    go_wp2_with fail
    (with_reducible refine hL.out.mono ?_); rintro e w2 ⟨u, lz, rfl, hz, hzl, hok, hb2⟩
    have hB2 := bel_trans hb1 hb2
    have hrd := hz.read
    have hS := bsplit_any u lz (K : Int) w2 hrd (by omega) (fun r hr => by have h1 := (okRec_sound (hok r hr)).2.2; have h2 := kok_12 hko; rw [h1]; omega)
    rw [prtL_in hK1] at hS
    have HS := Lib.hid hS
    have HB2 := Lib.hid hB2; have HZ := Lib.hid hrd; have HZL := Lib.hid hzl
    clear hL hz hok hko hb1 hb2 hB2 hrd hS hzl
    go_wp2_with fail
    (with_reducible refine (hP _).out.mono ?_); rintro e w2' ⟨rfl, rfl⟩
    have hadd := HADD.out
    have hadd2 := HADD2.out
    go_wp2_with fail
    (with_reducible refine HS.out.mono ?_); rintro e w3 ⟨pv, ps, rfl, ho, hd, hb3⟩
    clear hadd hadd2
    obtain ⟨P, hPP⟩ : ∃ P, prt K lz = P := ⟨_, rfl⟩
    rw [hPP] at hd
    have hfl : P.flatten = lz := by rw [← hPP]; exact prt_flat (by omega) _ lz (Nat.le_refl _)
    have hpart : ∀ (j : Nat) (q : List Rc), P[j]? = some q → 1 ≤ q.length ∧ q.length ≤ K ∧ (j + 1 < P.length → q.length = K) := by rw [← hPP]; exact prt_parts (by omega) _ lz (Nat.le_refl _)
    have hrp : RdP w3 w3.heap.size pv P := ⟨ps, ho.read, hd.read⟩
    obtain ⟨A, c, m, rfl, hm, hmc, hcm⟩ := hrp.bds
    have HRP := Lib.hid hrp; have HFL := Lib.hid hfl; have HPT := Lib.hid hpart; have HM := Lib.hid hm
    have HB3 := Lib.hid (bel_trans HB2.out hb3)
    have HZ3 := Lib.hid (HZ.out.step hb3)
    clear ho hd hPP hfl hpart hrp hm hb3 HS hP
    go_wp2_with fail
    go_loopw [6, 10, 11, 12, 25] (fun r av _ _ iv wr => ∃ (j : Nat) (qs : List Rs), r = .bool false ∧ iv = .int .i64 j ∧ j ≤ m ∧ OwnK recL 41 wr w3.heap.size av qs ∧ Hid (DeepR w3 w3.heap.size qs ((P.take j).flatten)) ∧ Below w3.heap.size w3 wr) (fun _ _ _ _ iv _ => m - (intOf iv).toNat)
    case atStart => exact ⟨0, [], rfl, rfl, Nat.zero_le _, OwnK.nil _ _ _ _, Lib.hid (by rw [List.take_zero]; exact DeepR.nil _ _), Below.refl _ _⟩
    case round =>
      obtain ⟨j, qs, rfl, rfl, hj, hown, HD, hbel⟩ := hrel
      by_cases hlt : j < m
      case neg =>
        have HF := Lib.hid (show (P.take j).flatten = lz by rw [List.take_of_length_le (by have := HM.out; omega)]; exact HFL.out)
        have hd := (HD.out.below hbel).more hbel.size
        rw [HF.out] at hd
        have HRA := Lib.hid (Go.RS.OwnK.rdR hown hd)
        have HRZ := Lib.hid (HZ3.out.step hbel)
        have HA := fun w => Lib.hid (awake15_any w)
        have hd0 : decide ((j : Int) < (m : Int)) = false := decide_eq_false (by omega)
        have hd0' : decide (j < m) = false := decide_eq_false hlt
        have HBW := Lib.hid (bel_trans HB3.out hbel)
        clear hd HD hown hbel
        go_wp2_with (first
          | (go_at_call 16; (with_reducible refine (HA _).out.mono ?_); rintro e wA ⟨rfl, hbx⟩; have HBA := Lib.hid (bel_trans HBW.out hbx); have HRA2 := Lib.hid (HRA.out.step hbx); have HRZ2 := Lib.hid (HRZ.out.step hbx); clear hbx)
          | (go_at_call 27; (with_reducible refine (same_recs _ _ lz lz wA HRA2.out HRZ2.out).mono ?_); rintro e wB ⟨b, rfl, hbb, hbx⟩; obtain rfl : b = true := hbb.2 rfl))
        go_ret
        exact RetB.mk rfl (bel_trans HBA.out hbx)
      have hjP : j < P.length := by have := HM.out; omega
      obtain ⟨Q, hPj⟩ : ∃ Q, P[j]? = some Q := ⟨P[j], List.getElem?_eq_getElem hjP⟩
      obtain ⟨ad, rA, rn, rc, rfl, hab, q0, qr⟩ := HRP.out.at hPj
      have hq0 : wr.cell? (ad.add j) = some (.slice rA rn rc) := by rw [hbel.cell (by rw [Go.VB.block_add]; exact hab)]; exact q0
      obtain ⟨t1, t2, t3⟩ := HPT.out j _ hPj
      have hrn := qr.len.1
      have HTS := Lib.hid (show (P.take (j + 1)).flatten = (P.take j).flatten ++ Q by rw [take_snoc hPj, List.flatten_append]; simp)
      have hlen : ((P.take (j + 1)).flatten).length ≤ 12 := by
        have h1 := congrArg List.length (show (P.take (j + 1)).flatten ++ (P.drop (j + 1)).flatten = lz by rw [← List.flatten_append, List.take_append_drop]; exact HFL.out)
        rw [List.length_append] at h1
        have := HZL.out
        omega
      obtain ⟨qq, hq1, hq2⟩ := qr
      have hl1 : qs.length + qq.length ≤ 12 := by rw [HD.out.1, hq2.1, ← List.length_append, ← HTS.out]; exact hlen
      have HL1 := Lib.hid (show qs.length + qq.length ≤ maxLen by unfold maxLen; omega)
      have HL2 := Lib.hid (show (qs.length + qq.length) * 32 ≤ 140737488355328 by omega)
      have HQ1 := Lib.hid (hq1.below hbel)
      have HDN := Lib.hid (show DeepR w3 w3.heap.size (qs ++ qq) ((P.take (j + 1)).flatten) from by rw [HTS.out]; exact HD.out.app hq2)
      have HOW := Lib.hid hown; have HBEL := Lib.hid hbel
      have e0 : ((rn : Int) == 0) = false := Go.VL.ieq_f (by omega)
      have e1 : decide ((K : Int) < (rn : Int)) = false := decide_eq_false (by omega)
      have e1' : decide (K < rn) = false := decide_eq_false (by omega)
      have hd0 : decide ((j : Int) < (m : Int)) = true := decide_eq_true (by omega)
      have hd0' : decide (j < m) = true := decide_eq_true hlt
      have hwl : w3.heap.size ≤ wr.heap.size := hbel.size
      have hjm : (j : Int) < (m : Int) := by omega
      have hm63 : m ≤ 9223372036854775807 := by omega
      have hmP := HM.out
      by_cases hlast : j + 1 < m
      · have e2 : decide ((j : Int) + 1 < (m : Int)) = true := decide_eq_true (by omega)
        have e3 : ((rn : Int) != (K : Int)) = false := Go.VL.ine_f (by rw [hrn, t3 (by omega)])
        clear t1 t2 t3 hPj hjP q0 hq1 hq2 hlen hl1 hown hbel hrn HD hmP hlast
        go_wp2_with (at_builtin; refine wpl_appK (L := recL) rfl _ _ 24 rfl w3.heap.size 41 32 Try.underlying24 Try.infRec _ qs rfl HOW.out w3.heap.size _ qq rfl HQ1.out HL1.out HL2.out hwl ?_)
        intro v' w' hown' hb' _
        have HBN := Lib.hid (HBEL.out.trans hb')
        clear hb'
        go_wp2_with fail
        go_roundw
        all_goals first
          | exact ⟨j + 1, _, rfl, by go_num, hlt, hown', HDN, HBN.out⟩
          | (simp [intOf]; omega)
      · have e2 : decide ((j : Int) + 1 < (m : Int)) = false := decide_eq_false (by omega)
        clear t1 t2 t3 hPj hjP q0 hq1 hq2 hlen hl1 hown hbel hrn HD hmP hlast
        go_wp2_with (at_builtin; refine wpl_appK (L := recL) rfl _ _ 24 rfl w3.heap.size 41 32 Try.underlying24 Try.infRec _ qs rfl HOW.out w3.heap.size _ qq rfl HQ1.out HL1.out HL2.out hwl ?_)
        intro v' w' hown' hb' _
        have HBN := Lib.hid (HBEL.out.trans hb')
        clear hb'
        go_wp2_with fail
        go_roundw
        all_goals first
          | exact ⟨j + 1, _, rfl, by go_num, hlt, hown', HDN, HBN.out⟩
          | (simp [intOf]; omega)
theorem batchSplitIsWhole_holds : Rows.BatchSplitIsWholeSaid :=
  OpenClaim.holds_of_wide 10 Try.f10 rfl rfl rfl rfl rfl rfl rfl ⟨rfl, rfl, rfl, rfl, rfl⟩ rfl rfl rfl rfl rfl (by kernel_rfl) Try.func10 (by kernel_rfl)
    (of_decide_eq_true (by kernel_rfl)) (by unfold Func.isWrapper; first | (rw [if_pos (by decide +kernel)]; kernel_rfl) | (rw [if_neg (by decide +kernel)]; exact ⟨rfl, rfl⟩))
    (fun os started H enc _ => batchSplitIsWhole_lifted os started H enc)
end Go.Proofs.Ytjbkeipagdmlpaa
