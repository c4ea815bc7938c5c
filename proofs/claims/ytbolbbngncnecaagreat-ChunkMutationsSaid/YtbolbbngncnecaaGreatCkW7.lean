/- The walks over package chunk: Encode. -/
import Derived.Test.YtbolbbngncnecaaGreatCkW6
import Derived.Test.YtbolbbngncnecaaGreatCkW3
namespace Go.CK
open Go.RowKit Go.VB Go.VS
theorem find_bad {typ : Int} {nu : Bool} {l : List Vl} (h : firstE typ nu l ≠ 0) : ¬ ∀ x ∈ l, chkV typ nu x = 0 := fun e => h (firstE_none e)
theorem alloc_lt (w : World) (o : Obj) : w.heap.size < (w.alloc o).heap.size := by simp
theorem u8_of {k : Nat} (h : k ≤ 4) : IntKind.u8.wrap (k : Int) = (k : Int) := by rw [IntKind.wrap_u8]; omega
theorem bestK_le (typ : Int) (l : List Vl) : 1 ≤ bestK typ l ∧ bestK typ l ≤ 4 := by
  unfold bestK
  repeat' split
  all_goals omega
end Go.CK
namespace Go.Proofs.YtbolbbngncnecaaGreat
open Go.RowKit Go.VB Go.VarM Go.BP Go.RL Go.VS Go.VL Go.DI Go.CK Go.NU
section
variable (nm : ByteArray) (ty sc : Int) (nu : Bool) (v : Value) (l : List Vl) (W : World)
set_option maxRecDepth 100000 in
set_option maxHeartbeats 1000000 in
theorem enc_type (hT : okT ty = false) : Calls Tryz.prog 12 #[(.agg #[.string nm, .int .i64 ty, .int .i64 sc, .bool nu]), v] W (RetB (.tuple #[.string ⟨#[]⟩, .int .i64 1]) W) := by
  have HT := fun w => Lib.hid (cisType_any ty w)
  rw [hT] at HT
  have HB1 := Lib.hid ((Below.refl W.heap.size W).alloc (Nat.le_refl _) (.cells #[.string nm, .int .i64 ty, .int .i64 sc, .bool nu] 24))
  clear hT
  go_enter Tryz.func12, Tryz.ntmps12
  go_wp2_with fail
  (with_reducible refine (HT _).out.mono ?_); rintro e w1 ⟨rfl, hb1⟩
  go_wp2
  go_ret2
  exact RetB.mk rfl (bel_trans HB1.out hb1)
set_option maxRecDepth 100000 in
set_option maxHeartbeats 1000000 in
theorem enc_full (hT : okT ty = true) (hr : RdL W W.heap.size v l) (hl : 4096 < l.length) : Calls Tryz.prog 12 #[(.agg #[.string nm, .int .i64 ty, .int .i64 sc, .bool nu]), v] W (RetB (.tuple #[.string ⟨#[]⟩, .int .i64 7]) W) := by
  obtain ⟨A, c, _, rfl, rfl, hc1, hc2⟩ := hr.bds
  have HT := fun w => Lib.hid (cisType_any ty w)
  rw [hT] at HT
  have HB1 := Lib.hid ((Below.refl W.heap.size W).alloc (Nat.le_refl _) (.cells #[.string nm, .int .i64 ty, .int .i64 sc, .bool nu] 24))
  have hd : decide ((4096 : Int) < (l.length : Int)) = true := decide_eq_true (by omega)
  have hd2 : decide (4096 < l.length) = true := decide_eq_true (by omega)
  clear hT hr
  go_enter Tryz.func12, Tryz.ntmps12
  go_wp2_with fail
  (with_reducible refine (HT _).out.mono ?_); rintro e w1 ⟨rfl, hb1⟩
  go_wp2
  go_ret2
  exact RetB.mk rfl (bel_trans HB1.out hb1)
set_option maxRecDepth 100000 in
set_option maxHeartbeats 1000000 in
theorem enc_bad (hT : okT ty = true) (hr : RdL W W.heap.size v l) (hl : l.length ≤ 4096) (E : Nat) (hE : firstE ty nu l = E) (h0 : E ≠ 0) : Calls Tryz.prog 12 #[(.agg #[.string nm, .int .i64 ty, .int .i64 sc, .bool nu]), v] W (RetB (.tuple #[.string ⟨#[]⟩, .int .i64 (E : Nat)]) W) := by
  have HT := fun w => Lib.hid (cisType_any ty w)
  rw [hT] at HT
  have HB1 := Lib.hid ((Below.refl W.heap.size W).alloc (Nat.le_refl _) (.cells #[.string nm, .int .i64 ty, .int .i64 sc, .bool nu] 24))
  have HS1 := Lib.hid (show (W.alloc (.cells #[.string nm, .int .i64 ty, .int .i64 sc, .bool nu] 24)).heap.size = W.heap.size + 1 from by simp)
  have HV := Lib.hid (Var4.new W (.string nm) (.int .i64 ty) (.int .i64 sc) (.bool nu) 24)
  have HCA := fun w h => Lib.hid (checkAll_any nm ty sc nu v l w h)
  rw [hE] at HCA
  have HR1 := Lib.hid (hr.step HB1.out)
  obtain ⟨A, c, _, rfl, rfl, hc1, hc2⟩ := hr.bds
  have hd : ((E : Int) != 0) = true := ine_t (by omega)
  clear hT hr hE h0
  go_enter Tryz.func12, Tryz.ntmps12
  go_wp2_with fail
  (with_reducible refine (HT _).out.mono ?_); rintro e w1 ⟨rfl, hb1⟩
  obtain ⟨v0, v1, v2, v3⟩ := HV.out.below hb1 (by rw [HS1.out]; exact Nat.lt_succ_self _)
  have hr1 := HR1.out.step hb1
  go_wp2_with fail
  (with_reducible refine (HCA _ hr1).out.mono ?_); rintro e w2 ⟨rfl, hb2⟩
  go_wp2
  go_ret2
  exact RetB.mk rfl (bel_trans (bel_trans HB1.out hb1) hb2)
set_option maxRecDepth 100000 in
set_option maxHeartbeats 1000000 in
theorem enc_good (hT : okT ty = true) (hr : RdL W W.heap.size v l) (hl : l.length ≤ 4096) (hE : firstE ty nu l = 0) (hb : ∀ x ∈ l, -9223372036854775808 ≤ x.n ∧ x.n ≤ 9223372036854775807) :
    Calls Tryz.prog 12 #[(.agg #[.string nm, .int .i64 ty, .int .i64 sc, .bool nu]), v] W (RetB (.tuple #[.string (str (bestB ty l)), .int .i64 0]) W) := by
  have hok := ok_of hT (firstE_zero.1 hE) hb
  have hsok := some_ok hok
  have hsl := some_len l
  have HT := fun w => Lib.hid (cisType_any ty w)
  rw [hT] at HT
  have HB1 := Lib.hid ((Below.refl W.heap.size W).alloc (Nat.le_refl _) (.cells #[.string nm, .int .i64 ty, .int .i64 sc, .bool nu] 24))
  have HS1 := Lib.hid (show (W.alloc (.cells #[.string nm, .int .i64 ty, .int .i64 sc, .bool nu] 24)).heap.size = W.heap.size + 1 from by simp)
  have HV := Lib.hid (Var4.new W (.string nm) (.int .i64 ty) (.int .i64 sc) (.bool nu) 24)
  have HCA := fun w h => Lib.hid (checkAll_any nm ty sc nu v l w h)
  rw [hE] at HCA
  have HSP := fun w h => Lib.hid (split_any v l w h hl)
  have HSH := fun v2 w h => Lib.hid (short_any ty hT v2 (some' l) w h (Nat.le_trans hsl hl) hsok)
  have hbody := body_parts ty (bestK ty (some' l)) l
  have hbl := body_le (typ := ty) (k := bestK ty (some' l)) hl hok
  have HPN := fun v1 w h => Lib.hid (putNulls_any v1 (marks l) w h (by rw [marks_len]; exact hl))
  have hk := bestK_le ty (some' l)
  have hbest := best_is ty l
  have HR1 := Lib.hid (hr.step HB1.out)
  obtain ⟨A, c, _, rfl, rfl, hc1, hc2⟩ := hr.bds
  have hnl := nulB_le (b := marks l) (by rw [marks_len]; exact hl)
  have hpl := pay_le (typ := ty) (codec := ((bestK ty (some' l) : Nat) : Int)) (Nat.le_trans hsl hl) hsok
  generalize payB ty ((bestK ty (some' l) : Nat) : Int) (some' l) = P at *
  generalize bestK ty (some' l) = K at *
  generalize nulB (marks l) = NB at *
  rw [← hbest]
  unfold buildB
  generalize bodyB ty K l = BD at *
  have HCK := fun w => Lib.hid (checksum_any (str BD) w (by rw [str_size]; omega))
  rw [str_toList] at HCK
  have hf4 : (four (crcL BD)).length = 4 := rfl
  have ha1 := fun w => run_add_2 (P := Tryz.prog) [UInt8.ofNat K] NB (by simp only [List.length_cons, List.length_nil]; omega) w
  have ha2 := fun w => run_add_2 (P := Tryz.prog) ([UInt8.ofNat K] ++ NB) P (by simp only [List.length_append, List.length_cons, List.length_nil]; omega) w
  rw [hbody] at ha2
  have ha3 := fun w => run_add_2 (P := Tryz.prog) BD (four (crcL BD)) (by omega) w
  obtain ⟨c1, hc1'⟩ : ∃ c1, str [UInt8.ofNat K] = c1 := ⟨_, rfl⟩
  obtain ⟨n1, hn1⟩ : ∃ n1, str NB = n1 := ⟨_, rfl⟩
  obtain ⟨p1, hp1⟩ : ∃ p1, str P = p1 := ⟨_, rfl⟩
  obtain ⟨c2, hc2'⟩ : ∃ c2, str ([UInt8.ofNat K] ++ NB) = c2 := ⟨_, rfl⟩
  obtain ⟨d1, hd1⟩ : ∃ d1, str BD = d1 := ⟨_, rfl⟩
  obtain ⟨f1, hf1⟩ : ∃ f1, str (four (crcL BD)) = f1 := ⟨_, rfl⟩
  obtain ⟨r1, hr1'⟩ : ∃ r1, str (BD ++ four (crcL BD)) = r1 := ⟨_, rfl⟩
  rw [hc1', hn1, hc2'] at ha1
  rw [hc2', hp1, hd1] at ha2
  rw [hd1, hf1, hr1'] at ha3
  simp only [hd1, hf1] at HCK
  simp only [hn1] at HPN
  simp only [hp1] at HSH
  rw [hr1']
  have hcv : ∀ (w : World) (g : Nat), w.cell? ⟨g, 0, none⟩ = some (.int .u8 (K : Int)) → (convert 30 9 (.slice (some ⟨g, 0, none⟩) 1 1)).run Tryz.prog w = .ok (.string c1) w := fun w g h => by
    have := run_string1_at (P := Tryz.prog) 30 9 5 Tryz.underlying30 Tryz.underlying5 Tryz.underlying9 w g (K : Int) 1 h
    rw [Int.toNat_natCast, hc1'] at this
    exact this
  have HCV := Lib.hid hcv
  have HCA1 := Lib.hid (show ∀ w : World, (convert 30 9 (.slice (some ⟨w.heap.size, 0, none⟩) 1 1)).run Tryz.prog (w.alloc (.cells #[.int .u8 (K : Int)] 5)) = .ok (.string c1) (w.alloc (.cells #[.int .u8 (K : Int)] 5)) from fun w => hcv _ _ (by simp))
  have HCA2 := Lib.hid (show ∀ w : World, (convert 30 9 (.slice (some ⟨w.heap.size, 0, none⟩) 1 1)).run Tryz.prog (w.alloc (.cells #[.int .u8 (K : Int)] 5)).drew = .ok (.string c1) (w.alloc (.cells #[.int .u8 (K : Int)] 5)).drew from fun w => hcv _ _ (cell_new1 w _ _))
  have w8 := u8_of hk.2
  clear hT hr hE hb hok hsok hsl hbody hbl hbest hf4 hc1' hn1 hp1 hc2' hd1 hf1 hr1' hcv hnl hpl
  go_enter Tryz.func12, Tryz.ntmps12
  go_wp2_with fail
  (with_reducible refine (HT _).out.mono ?_); rintro e w1 ⟨rfl, hb1⟩
  clear HT
  obtain ⟨v0, v1, v2, v3⟩ := HV.out.below hb1 (by rw [HS1.out]; exact Nat.lt_succ_self _)
  have hB1 := bel_trans HB1.out hb1
  have hr1 := HR1.out.step hb1
  go_wp2_with fail
  (with_reducible refine (HCA _ hr1).out.mono ?_); rintro e w2 ⟨rfl, hb2⟩
  clear HCA v0 v1 v2 v3
  have hb12 := bel_trans hb1 hb2
  have hr2 := hr1.step hb2
  have hB2 := bel_trans hB1 hb2
  clear hB1 hr1 hb1 hb2
  go_wp2_with fail
  (with_reducible refine (HSP _ hr2).out.mono ?_); rintro e w3 ⟨x1, x2, rfl, hx1, hx2, hb3⟩
  clear HSP
  obtain ⟨v0, v1, v2, v3⟩ := HV.out.below (bel_trans hb12 hb3) (by rw [HS1.out]; exact Nat.lt_succ_self _)
  have hB3 := bel_trans hB2 hb3
  clear hr2 hb12 hB2 hb3
  go_wp2_with fail
  (with_reducible refine (HSH x2 _ hx2).out.mono ?_); rintro e w4 ⟨rfl, hb4⟩
  have hx3 := hx1.step hb4
  have hB4 := bel_trans hB3 hb4
  clear HSH hx1 hx2 hB3 hb4 v0 v1 v2 v3
  have HX3 := Lib.hid hx3; have HB4 := Lib.hid hB4
  clear hx3 hB4
  go_upto_region 10 with fail
  go_cut [11] from 37 to 45 (fun s w' => s = .string d1 ∧ Below w4.heap.size w4 w')
  case first =>
    have hqa := HCA1.out w4
    have hqb := HCA2.out w4
    go_region_with (first | (go_at_call 31; (with_reducible refine (HPN x1 _ ?_).out.mono ?_); (first | exact HX3.out | exact HX3.out.step (by go_grown)); rintro e w5 ⟨rfl, hb5⟩; have hqc := HCA1.out w5; have hqd := HCA2.out w5; (first | (have hq0 := HCV.out w5 w4.heap.size ((hb5.cell (p := ⟨w4.heap.size, 0, none⟩) (alloc_lt w4 (.cells #[.int .u8 (K : Int)] 5))).trans (cell_new1 w4 (.int .u8 (K : Int)) 5))) | skip)))
    all_goals
      go_wp2_with fail
      go_meet
      case rel =>
        first
          | (have hh : Below w4.heap.size w4 w5 := bel_trans (Below.refl _ _).drew hb5; exact ⟨rfl, hh.alloc hh.size _⟩)
          | exact ⟨rfl, bel_trans (by go_grown) hb5⟩
  case rest =>
    obtain ⟨rfl, hb5⟩ := hcut
    go_wp2_with fail
    (with_reducible refine (HCK _).out.mono ?_); rintro e w6 ⟨rfl, hb6⟩
    go_wp2
    go_ret2
    exact RetB.mk rfl (bel_trans (bel_trans HB4.out hb5) hb6)
end
end Go.Proofs.YtbolbbngncnecaaGreat
