/- The walks over the reference's chunks: Build. -/
import Derived.Test.YtbolbbngncnecaaGreatCkR1
import Derived.Test.YtbolbbngncnecaaGreatCkW3
namespace Go.VB
open Go.RowKit
theorem Below.cellOf {w w' : World} (hb : Below w.heap.size w w') {g i : Nat} {x : Value} (h : w.cell? ⟨g, i, none⟩ = some x) : w'.cell? ⟨g, i, none⟩ = some x := (hb.cell (p := ⟨g, i, none⟩) (World.block_lt_of_cell? w _ h)).trans h
end Go.VB
namespace Go.CK
open Go.RowKit Go.VB Go.VarM
theorem gb_facts {n z k : Nat} (hk : n - z = k) (hz : z ≤ n) (hn : n ≤ 4096) : wrap64 ((n : Int) - (z : Int)) = (k : Int) ∧ (n : Int) - (z : Int) = (k : Int) ∧ IntKind.u64.wrap (n : Int) = (n : Int) ∧ IntKind.u64.wrap (k : Int) = (k : Int) ∧ IntKind.i64.wrap (k : Int) = (k : Int) ∧ wrap64 (k : Int) = (k : Int) ∧ IntKind.i64.wrap ((n : Int) - (z : Int)) = (k : Int) :=
  ⟨by unfold wrap64; omega, by omega, by rw [IntKind.wrap_u64]; omega, by rw [IntKind.wrap_u64]; omega, IntWalk.i64_in _ ⟨by omega, by omega⟩, by unfold wrap64; omega, by rw [show (n : Int) - (z : Int) = (k : Int) by omega]; exact IntWalk.i64_in _ ⟨by omega, by omega⟩⟩
theorem hd_len {c : UInt8} {n k : Nat} (h1 : (putL n).length ≤ 10) (h2 : (putL k).length ≤ 10) : [c].length + (putL n).length ≤ 4611686018427387904 ∧ ([c] ++ putL n).length + (putL k).length ≤ 4611686018427387904 ∧ ([c] ++ putL n ++ putL k).length ≤ 21 := by
  simp only [List.length_append, List.length_cons, List.length_nil]
  omega
end Go.CK
namespace Go.Proofs.YtbolbbngncnecaaGreat
open Go.RowKit Go.VB Go.VarM Go.BP Go.RL Go.VS Go.VL Go.DI Go.CK Go.NU
set_option maxRecDepth 100000 in
set_option maxHeartbeats 1500000 in
theorem cbuild_any (nm : ByteArray) (ty sc : Int) (nu : Bool) (codec : Nat) (v : Value) (l : List Vl) (W : World) (h1 : 1 ≤ codec) (h4 : codec ≤ 4) (hr : RdL W W.heap.size v l) (hl : l.length ≤ 4096) (hv : ∀ x ∈ l, Vok x) :
    Calls Tryz.prog 7 #[(.agg #[.string nm, .int .i64 ty, .int .i64 sc, .bool nu]), .int .i64 (codec : Int), v] W (RetB (.string (str (buildB ty codec l))) W) := by
  obtain ⟨A, c, _, rfl, rfl, hc1, hc2⟩ := hr.bds
  have hsl := some_len l
  have hsok := some_ok hv
  have HPAY := fun v2 w h => Lib.hid (rpay_any ty v2 (some' l) w h (Nat.le_trans hsl hl) hsok codec h1 h4)
  have HPK := fun v1 w h => Lib.hid (rpackb_any v1 (marks l) w.heap.size w h (Nat.le_refl _) (by rw [marks_len]; omega))
  have HP1 := fun w => Lib.hid (rput_any l.length w (by omega))
  have HP2 := fun w => Lib.hid (rput_any (l.length - (some' l).length) w (by omega))
  have hL1 := putL_len10 (n := l.length) (by omega)
  have hL2 := putL_len10 (n := l.length - (some' l).length) (by omega)
  have hbl := body_le (typ := ty) (k := codec) hl hv
  have hbz := bmp_size (marks l)
  rw [marks_len] at hbz
  have hbody : bodyB ty codec l = [UInt8.ofNat codec] ++ putL l.length ++ putL (l.length - (some' l).length) ++ (if (some' l).length < l.length then (bmp (marks l)).data.toList else []) ++ payB ty codec (some' l) := rfl
  have hpl := pay_le (typ := ty) (codec := ((codec : Nat) : Int)) (Nat.le_trans hsl hl) hsok
  have HB1 := Lib.hid ((Below.refl W.heap.size W).alloc (Nat.le_refl _) (.cells #[.string nm, .int .i64 ty, .int .i64 sc, .bool nu] 24))
  have HS1 := Lib.hid (show (W.alloc (.cells #[.string nm, .int .i64 ty, .int .i64 sc, .bool nu] 24)).heap.size = W.heap.size + 1 from by simp)
  have HVR := Lib.hid (Var4.new W (.string nm) (.int .i64 ty) (.int .i64 sc) (.bool nu) 24)
  have HR := Lib.hid (hr.step HB1.out)
  have w8 := u8_of h4
  have hF := four_any
  have HCRC := fun w => Lib.hid (crcref_any (str (bodyB ty codec l)) w (by rw [str_size]; omega))
  rw [str_toList] at HCRC
  have HFOUR := fun w => Lib.hid (four_any (crcL (bodyB ty codec l)) w (crcL_lt _))
  have hcv : ∀ (w : World) (g : Nat), w.cell? ⟨g, 0, none⟩ = some (.int .u8 (codec : Int)) → (convert 30 9 (.slice (some ⟨g, 0, none⟩) 1 1)).run Tryz.prog w = .ok (.string (str [UInt8.ofNat codec])) w := fun w g h => by
    have := run_string1_at (P := Tryz.prog) 30 9 5 Tryz.underlying30 Tryz.underlying5 Tryz.underlying9 w g (codec : Int) 1 h
    rw [Int.toNat_natCast] at this
    exact this
  have HCV := Lib.hid hcv
  have HCA1 := Lib.hid (show ∀ w : World, (convert 30 9 (.slice (some ⟨w.heap.size, 0, none⟩) 1 1)).run Tryz.prog (w.alloc (.cells #[.int .u8 (codec : Int)] 5)) = .ok (.string (str [UInt8.ofNat codec])) (w.alloc (.cells #[.int .u8 (codec : Int)] 5)) from fun w => hcv _ _ (by simp))
  have HCA2 := Lib.hid (show ∀ w : World, (convert 30 9 (.slice (some ⟨w.heap.size, 0, none⟩) 1 1)).run Tryz.prog (w.alloc (.cells #[.int .u8 (codec : Int)] 5)).drew = .ok (.string (str [UInt8.ofNat codec])) (w.alloc (.cells #[.int .u8 (codec : Int)] 5)).drew from fun w => hcv _ _ (cell_new1 w _ _))
  clear hr hv hsok h1 h4 hcv hF
  go_enter Tryz.func7, Tryz.ntmps7
  go_wp2
  go_loopw [7, 8, 14] (fun sv nv i wr => ∃ (j : Nat), i = .int .i64 j ∧ j ≤ l.length ∧ OwnV Value.bool 4 wr (W.heap.size + 1) nv (marks (l.take j)) ∧ OwnL 42 wr (W.heap.size + 1) sv (some' (l.take j)) ∧
      Below (W.heap.size + 1) (W.alloc (.cells #[.string nm, .int .i64 ty, .int .i64 sc, .bool nu] 24)) wr) (fun _ _ i _ => l.length - (intOf i).toNat)
  case atStart => exact ⟨0, rfl, Nat.zero_le _, OwnV.nil _ _ _ _, OwnL.nil _ _ _, Below.refl _ _⟩
  case round =>
    obtain ⟨j, rfl, hj, hnv, hsv, hbel⟩ := hrel
    have hsz := hbel.size
    rw [HS1.out] at hsz
    by_cases hlt : j < l.length
    · have hlj : l[j]? = some l[j] := List.getElem?_eq_getElem hlt
      obtain ⟨ad, rfl, _, q0, q1, q2⟩ := (HR.out.below (hbel.mono (by rw [HS1.out]; exact Nat.le_refl _))).at hlj
      have HJ := Lib.hid hlj; clear hlj
      generalize l[j] = X at q0 q1 q2 HJ
      obtain ⟨xb, xn, xs⟩ := X
      simp only at q0 q1 q2
      have HMS := Lib.hid (marks_snoc HJ.out)
      have HSS := Lib.hid (some_snoc HJ.out)
      have hsm := some_len (l.take j)
      have hml := marks_take_len hj
      have hlt2 : (l.take j).length ≤ 4096 := by rw [List.length_take]; omega
      generalize some' (l.take j) = m at *
      generalize marks (l.take j) = nl at *
      have hne := OwnV.ne' hnv (Nat.le_refl _)
      have HNE := Lib.hid hne
      have HNO := Lib.hid ((hnv.alloc (.cells #[.bool xb, .int .i64 xn, .string xs] 42)).alloc (.cells #[.bool xb] 4))
      have HSO := Lib.hid ((hsv.alloc (.cells #[.bool xb, .int .i64 xn, .string xs] 42)).alloc (.cells #[.bool xb] 4))
      have HAP := Lib.hid (own_apart (show 4 ≠ 42 by decide) hnv hsv)
      have HBA := Lib.hid ((hbel.alloc hsz (.cells #[.bool xb, .int .i64 xn, .string xs] 42)).alloc (by simp; omega) (.cells #[.bool xb] 4))
      have HSA := Lib.hid (show ((wr.alloc (.cells #[.bool xb, .int .i64 xn, .string xs] 42)).alloc (.cells #[.bool xb] 4)).heap.size = wr.heap.size + 1 + 1 by simp)
      have HX := Lib.hid (show RdV Value.bool ((wr.alloc (.cells #[.bool xb, .int .i64 xn, .string xs] 42)).alloc (.cells #[.bool xb] 4)) (wr.heap.size + 1 + 1) (.slice (some ⟨wr.heap.size + 1, 0, none⟩) 1 1) [xb] by
        have h := RdV.one Value.bool (wr.alloc (.cells #[.bool xb, .int .i64 xn, .string xs] 42)) xb 1 4 (by decide) (by decide)
        rw [show (wr.alloc (.cells #[.bool xb, .int .i64 xn, .string xs] 42)).heap.size = wr.heap.size + 1 from by simp] at h
        exact h)
      have HL1 := Lib.hid (show nl.length + [xb].length ≤ maxLen by unfold maxLen; simp only [List.length_cons, List.length_nil]; omega)
      have HL2 := Lib.hid (show (nl.length + [xb].length) * 1 ≤ 140737488355328 by simp only [List.length_cons, List.length_nil]; omega)
      have HL3 := Lib.hid (show W.heap.size + 1 ≤ ((wr.alloc (.cells #[.bool xb, .int .i64 xn, .string xs] 42)).alloc (.cells #[.bool xb] 4)).heap.size by rw [HSA.out]; omega)
      have hca0 : ((wr.alloc (.cells #[.bool xb, .int .i64 xn, .string xs] 42)).alloc (.cells #[.bool xb] 4)).cell? ⟨wr.heap.size, 0, none⟩ = some (.bool xb) := by simp
      have hca1 : ((wr.alloc (.cells #[.bool xb, .int .i64 xn, .string xs] 42)).alloc (.cells #[.bool xb] 4)).cell? ⟨wr.heap.size, 1, none⟩ = some (.int .i64 xn) := by simp
      have hca2 : ((wr.alloc (.cells #[.bool xb, .int .i64 xn, .string xs] 42)).alloc (.cells #[.bool xb] 4)).cell? ⟨wr.heap.size, 2, none⟩ = some (.string xs) := by simp
      have HC0 := Lib.hid hca0; have HC1 := Lib.hid hca1; have HC2 := Lib.hid hca2
      clear hnv hsv hne hca0 hca1 hca2
      go_wp2_with (at_builtin; refine wpl_appV (f := Value.bool) (fun _ => rfl) (.bool false) rfl rfl _ _ 45 rfl (W.heap.size + 1) 4 1 Tryz.underlying45 Tryz.infBool _ nl rfl HNO.out _ _ [xb] rfl HX.out HL1.out HL2.out HL3.out ?_)
      intro v' w' hnv' hb' hg'
      have hsv' := HSO.out.keep hg' HAP.out
      have hlt3 : wr.heap.size < ((wr.alloc (.cells #[.bool xb, .int .i64 xn, .string xs] 42)).alloc (.cells #[.bool xb] 4)).heap.size := by rw [HSA.out]; omega
      have d0 := grown_cell hg' hlt3 HNE.out HC0.out
      have d1 := grown_cell hg' hlt3 HNE.out HC1.out
      have d2 := grown_cell hg' hlt3 HNE.out HC2.out
      have hbel' := HBA.out.trans hb'
      have hsz' := hbel'.size
      rw [HS1.out] at hsz'
      clear hb' hg' hlt3 HNO HSO HBA HX HL1 HL2 HL3 HC0 HC1 HC2 hbel
      cases xb
      · have HNO := Lib.hid (hnv'.alloc (.cells #[.bool false, .int .i64 xn, .string xs] 42))
        have HSO := Lib.hid (hsv'.alloc (.cells #[.bool false, .int .i64 xn, .string xs] 42))
        have HAP2 := Lib.hid (own_apart' (show 4 ≠ 42 by decide) hnv' hsv')
        have HBA := Lib.hid (hbel'.alloc hsz' (.cells #[.bool false, .int .i64 xn, .string xs] 42))
        have HX2 := Lib.hid (RdL.lit w' [⟨false, xn, xs⟩] 1 42 (Nat.le_refl 1) (by decide))
        have HL1 := Lib.hid (show m.length + [(⟨false, xn, xs⟩ : Vl)].length ≤ 1000000 by simp only [List.length_cons, List.length_nil]; omega)
        have HL3 := Lib.hid HBA.out.size
        rw [HS1.out] at HL3
        clear hnv' hsv' hbel'
        go_wp2_with (at_builtin; refine wpl_appL rfl _ _ 28 rfl (W.heap.size + 1) 42 Tryz.underlying28 Tryz.infVal _ m rfl HSO.out _ _ [⟨false, xn, xs⟩] rfl HX2.out HL1.out HL3.out ?_)
        intro v3 w3 hsv3 hb3 hg3
        have hnv3 := OwnV.keepG HNO.out hg3 HAP2.out
        go_wp2_with fail
        go_roundw
        case rel => exact ⟨j + 1, by go_num, hlt, by rw [HMS.out]; exact hnv3, by rw [HSS.out]; exact hsv3, HBA.out.trans hb3⟩
        case measure => simp [intOf] <;> omega
      · go_wp2_with fail
        go_roundw
        case rel => exact ⟨j + 1, by go_num, hlt, by rw [HMS.out]; exact hnv', by rw [HSS.out]; exact hsv', hbel'⟩
        case measure => simp [intOf] <;> omega
    · have HT := Lib.hid (show l.take j = l from List.take_of_length_le (by omega))
      have hrn := hnv.read
      have hrs := hsv.read
      rw [HT.out] at hrn hrs
      obtain ⟨A1, d1, _, rfl, rfl, he1, he2⟩ := hrs.bds
      have HRN := Lib.hid hrn; have HRS := Lib.hid hrs; have HBW := Lib.hid hbel
      clear hnv hsv hrn hrs hbel
      generalize hk : l.length - (some' l).length = k at *
      generalize hz : (some' l).length = z at *
      generalize hn : l.length = n at *
      generalize hPB : payB ty (codec : Int) (some' l) = PB at *
      generalize hBM : bmp (marks l) = BM at *
      obtain ⟨hwk, hwk2, hwu1, hwu2, hwk3, hwk4, hwk5⟩ := gb_facts hk hsl hl
      obtain ⟨hd1, hd2, hd3⟩ := hd_len (c := UInt8.ofNat codec) hL1 hL2
      have ha1 := fun w => run_add_2 (P := Tryz.prog) [UInt8.ofNat codec] (putL n) hd1 w
      have ha2 := fun w => run_add_2 (P := Tryz.prog) ([UInt8.ofNat codec] ++ putL n) (putL k) hd2 w
      obtain ⟨H, hH⟩ : ∃ H, [UInt8.ofNat codec] ++ putL n ++ putL k = H := ⟨_, rfl⟩
      have hHl : H.length ≤ 21 := by rw [← hH]; exact hd3
      clear hd1 hd2 hd3
      rw [hH] at ha2 hbody
      obtain ⟨c1, hc1'⟩ : ∃ c1, str [UInt8.ofNat codec] = c1 := ⟨_, rfl⟩
      obtain ⟨n1, hn1⟩ : ∃ n1, str (putL n) = n1 := ⟨_, rfl⟩
      obtain ⟨k1, hk1⟩ : ∃ k1, str (putL k) = k1 := ⟨_, rfl⟩
      obtain ⟨c2, hc2'⟩ : ∃ c2, str ([UInt8.ofNat codec] ++ putL n) = c2 := ⟨_, rfl⟩
      rw [hc1', hn1, hc2'] at ha1
      rw [hc2', hk1] at ha2
      simp only [hc1'] at HCV HCA1 HCA2
      simp only [hn1] at HP1
      simp only [hk1] at HP2
      have HKK := Lib.hid hk; have HZZ := Lib.hid hz; have HNN := Lib.hid hn
      clear hk hz hn hc1' hn1 hk1 hc2' hH
      go_upto_region 10 with fail
      have HALL := Lib.hid (And.intro hbl (And.intro hbz (And.intro hbody (And.intro hpl (And.intro hl (And.intro hsl (And.intro hsz (And.intro hHl (And.intro hwk2 hj)))))))))
      clear hbl hbz hbody hpl hl hsl hsz hHl hwk2 hj hlt hL1 hL2 hc1 hc2 he1 he2
      have HA1 := Lib.hid ha1; have HA2 := Lib.hid ha2
      have HWW := Lib.hid (And.intro hwk (And.intro hwu1 (And.intro hwu2 (And.intro hwk3 (And.intro hwk4 (And.intro hwk5 w8))))))
      clear ha1 ha2 hwk hwu1 hwu2 hwk3 hwk4 hwk5 w8
      go_cut [11] from 31 to 47 (fun s w' => s = .string (str H) ∧ Below wr.heap.size wr w')
      case first =>
        clear HPAY HPK HCRC HFOUR HR HRN HRS HBW HB1 HS1 HVR HKK HZZ HNN HALL HT
        have ha1 := HA1.out; have ha2 := HA2.out
        obtain ⟨hwk, hwu1, hwu2, hwk3, hwk4, hwk5, w8⟩ := HWW.out
        have hqa := HCA1.out wr
        have hqb := HCA2.out wr
        have hce := fun w : World => cell_new1 w (.int .u8 (codec : Int)) 5
        have hcw := hce wr
        have hcd : ((wr.alloc (.cells #[.int .u8 (codec : Int)] 5)).drew).cell? ⟨wr.heap.size, 0, none⟩ = some (.int .u8 (codec : Int)) := hcw
        have HCE := Lib.hid hce; have HCW := Lib.hid hcw; have HCD := Lib.hid hcd
        clear hce hcw hcd
        go_region_with (first
          | (go_at_call 15; (with_reducible refine (HP1 _).out.mono ?_); rintro e w5 ⟨rfl, hb5⟩; have hB5 : Below wr.heap.size wr w5 := bel_trans (by go_grown) hb5; clear hqa hqb; (first | (with_reducible have hk0 := Below.cellOf hb5 HCD.out; have hq0 := HCV.out w5 wr.heap.size hk0; have HK0 := Lib.hid hk0; clear hk0) | (have hq0 := HCA1.out w5)); clear hb5)
          | (go_at_call 15; (with_reducible refine (HP2 _).out.mono ?_); rintro e w6 ⟨rfl, hb6⟩; have hB6 : Below wr.heap.size wr w6 := (by (first | (with_reducible exact bel_trans hB5 hb6) | (with_reducible exact bel_trans (hB5.alloc hB5.size _) hb6))); clear hq0; (first | (with_reducible have hq1 := HCV.out w6 wr.heap.size (Below.cellOf hb6 HK0.out)) | (with_reducible have hq1 := HCV.out w6 w5.heap.size (Below.cellOf hb6 (HCE.out w5))) | (have hq1 := HCA1.out w6)); clear hb6 hB5))
        all_goals
          go_wp2_with fail
          go_meet
          case rel =>
            first
              | exact ⟨rfl, hB6⟩
              | exact ⟨rfl, hB6.alloc hB6.size _⟩
      case rest =>
        obtain ⟨rfl, hb5⟩ := hcut
        clear HP1 HP2 HCA1 HCA2 HCV HA1 HA2 HWW
        obtain ⟨hbl, hbz, hbody, hpl, hl, hsl, hsz, hHl, hwk2, hj⟩ := HALL.out
        clear HALL
        have hrn5 := HRN.out.step hb5
        have hrs5 := HRS.out.step hb5
        have hbw5 : Below (W.heap.size + 1) (W.alloc (.cells #[.string nm, .int .i64 ty, .int .i64 sc, .bool nu] 24)) wc := HBW.out.trans (hb5.mono hsz)
        have hszc := hbw5.size
        rw [HS1.out] at hszc
        have hf4 : (four (crcL (bodyB ty codec l))).length = 4 := rfl
        have ha5 := fun w => run_add_2 (P := Tryz.prog) (bodyB ty codec l) (four (crcL (bodyB ty codec l))) (by omega) w
        have HRES := Lib.hid (show buildB ty codec l = bodyB ty codec l ++ four (crcL (bodyB ty codec l)) from rfl)
        clear hf4
        by_cases hzn : z < n
        · rw [if_pos hzn] at hbody
          have hdd : decide ((z : Int) < (n : Int)) = true := decide_eq_true (by omega)
          have hdd2 : decide (z < n) = true := decide_eq_true hzn
          have ha3 := fun w => run_add_2 (P := Tryz.prog) H BM.data.toList (by rw [size_list]; omega) w
          rw [str_of] at ha3
          have ha4 := fun w => run_add_2 (P := Tryz.prog) (H ++ BM.data.toList) PB (by rw [List.length_append, size_list]; omega) w
          rw [← hbody] at ha4
          generalize bodyB ty codec l = BD at *
          clear hzn hbody
          go_wp2_with fail
          (with_reducible refine (HPK _ _ hrn5).out.mono ?_); rintro e w6 ⟨rfl, hb6⟩
          have hrs6 := hrs5.step hb6
          have hbw6 := hbw5.trans (hb6.mono hszc)
          obtain ⟨v0, v1, v2, v3⟩ := HVR.out.below hbw6 (Nat.lt_succ_self _)
          go_wp2_with fail
          (with_reducible refine (HPAY _ _ hrs6).out.mono ?_); rintro e w7 ⟨rfl, hb7⟩
          go_wp2_with fail
          (with_reducible refine (HCRC _).out.mono ?_); rintro e w8 ⟨rfl, hb8⟩
          go_wp2_with fail
          (with_reducible refine (HFOUR _).out.mono ?_); rintro e w9 ⟨rfl, hb9⟩
          have hB := (HB1.out.trans (hbw6.mono (Nat.le_succ _)))
          have hB2 := bel_trans (bel_trans (bel_trans hB hb7) hb8) hb9
          clear hrn5 hrs5 hrs6 hbw5 hbw6 v0 v1 v2 v3 hb5 hb6 hb7 hb8 hb9 hB
          go_wp2
          go_ret
          exact RetB.mk (by rw [HRES.out]; rfl) hB2
        · rw [if_neg hzn, List.append_nil] at hbody
          have hdd : decide ((z : Int) < (n : Int)) = false := decide_eq_false (by omega)
          have hdd2 : decide (z < n) = false := decide_eq_false hzn
          have ha4 := fun w => run_add_2 (P := Tryz.prog) H PB (by omega) w
          rw [← hbody] at ha4
          generalize bodyB ty codec l = BD at *
          clear hzn hbody
          obtain ⟨v0, v1, v2, v3⟩ := HVR.out.below hbw5 (Nat.lt_succ_self _)
          go_wp2_with fail
          (with_reducible refine (HPAY _ _ hrs5).out.mono ?_); rintro e w7 ⟨rfl, hb7⟩
          go_wp2_with fail
          (with_reducible refine (HCRC _).out.mono ?_); rintro e w8 ⟨rfl, hb8⟩
          go_wp2_with fail
          (with_reducible refine (HFOUR _).out.mono ?_); rintro e w9 ⟨rfl, hb9⟩
          have hB := (HB1.out.trans (hbw5.mono (Nat.le_succ _)))
          have hB2 := bel_trans (bel_trans (bel_trans hB hb7) hb8) hb9
          clear hrn5 hrs5 hbw5 v0 v1 v2 v3 hb5 hb7 hb8 hb9 hB
          go_wp2
          go_ret
          exact RetB.mk (by rw [HRES.out]; rfl) hB2
end Go.Proofs.YtbolbbngncnecaaGreat
