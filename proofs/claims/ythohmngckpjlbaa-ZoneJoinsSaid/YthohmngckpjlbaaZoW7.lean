/- The walks over Join and Put, package zone's and the reference's. -/
import Derived.Test.YthohmngckpjlbaaZoW1
import Derived.Test.YthohmngckpjlbaaValP
import Derived.Test.YthohmngckpjlbaaConfl3
namespace Go.ZN
open Go.RowKit Go.VB Go.VS Go.VL Go.CK Go.VarM
/-- The bytes of a zone. -/
def putZ (z : Zn) : List UInt8 := putL z.rows.toNat ++ putL z.nulls.toNat ++ putV z.mn.nu z.mn.n z.mn.s ++ putV z.mx.nu z.mx.n z.mx.s
theorem putV_len {b : Bool} {n : Int} {s : ByteArray} (hn : (Lit.int .i64 n).wf = true) (hs : s.size ≤ 140737488351232) : (putV b n s).length ≤ s.size + 21 := by
  unfold putV
  cases b with
  | true => simp
  | false =>
    obtain ⟨n1, n2⟩ := bounds_i64 hn
    obtain ⟨z1, z2⟩ := zig_bd n1 n2
    have l1 := putL_len10 (n := (zigN n).toNat) (by omega)
    have l2 := putL_len10 (n := s.size) (by omega)
    simp only [Bool.false_eq_true, if_false, List.length_append, List.length_cons, List.length_nil, size_list]
    omega
end Go.ZN
namespace Go.Proofs.Ythohmngckpjlbaa
open Go.RowKit Go.VB Go.VL Go.VS Go.ZN Go.CK Go.VarM
set_option linter.constructorNameAsVariable false
set_option maxRecDepth 100000 in
set_option maxHeartbeats 4000000 in
theorem zjoin_any (ty : Int) (ar au : Int) (amb : Bool) (ami : Int) (ams : ByteArray) (axb : Bool) (axi : Int) (axs : ByteArray) (br bu : Int) (bmb : Bool) (bmi : Int) (bms : ByteArray) (bxb : Bool) (bxi : Int) (bxs : ByteArray) (r u : Int) (W : World)
    (hv1 : IntKind.i64.wrap (ar + br) = r) (hv2 : IntKind.i64.wrap (au + bu) = u) :
    Calls Try.prog 17 #[.int .i64 ty, (.agg #[.int .i64 ar, .int .i64 au, .bool amb, .int .i64 ami, .string ams, .bool axb, .int .i64 axi, .string axs]), (.agg #[.int .i64 br, .int .i64 bu, .bool bmb, .int .i64 bmi, .string bms, .bool bxb, .int .i64 bxi, .string bxs])] W (RetB (⟨r, u, pck ty (-1) ⟨amb, ami, ams⟩ ⟨bmb, bmi, bms⟩, pck ty 1 ⟨axb, axi, axs⟩ ⟨bxb, bxi, bxs⟩⟩ : Zn).val W) := by
  have HL := fun w => Lib.hid (lesser_any ty amb ami ams bmb bmi bms w)
  have HG := fun w => Lib.hid (greater_any ty axb axi axs bxb bxi bxs w)
  generalize pck ty (-1) ⟨amb, ami, ams⟩ ⟨bmb, bmi, bms⟩ = P at *
  generalize pck ty 1 ⟨axb, axi, axs⟩ ⟨bxb, bxi, bxs⟩ = Q at *
  obtain ⟨pb, pi, ps⟩ := P
  obtain ⟨qb, qi, qs⟩ := Q
  simp only [Vl.val] at HL HG
  rw [show (⟨r, u, ⟨pb, pi, ps⟩, ⟨qb, qi, qs⟩⟩ : Zn).val = (.agg #[.int .i64 r, .int .i64 u, .bool pb, .int .i64 pi, .string ps, .bool qb, .int .i64 qi, .string qs]) from rfl]
  have HA := Lib.hid (VarZ.new W ⟨ar, au, ⟨amb, ami, ams⟩, ⟨axb, axi, axs⟩⟩ 25)
  have HB := Lib.hid (VarZ.new (W.alloc (.cells #[.int .i64 ar, .int .i64 au, .bool amb, .int .i64 ami, .string ams, .bool axb, .int .i64 axi, .string axs] 25)) ⟨br, bu, ⟨bmb, bmi, bms⟩, ⟨bxb, bxi, bxs⟩⟩ 25)
  have HR := Lib.hid (VarZ.new ((W.alloc (.cells #[.int .i64 ar, .int .i64 au, .bool amb, .int .i64 ami, .string ams, .bool axb, .int .i64 axi, .string axs] 25)).alloc (.cells #[.int .i64 br, .int .i64 bu, .bool bmb, .int .i64 bmi, .string bms, .bool bxb, .int .i64 bxi, .string bxs] 25)) ⟨0, 0, vl0, vl0⟩ 25)
  have HBW : Hid (Below W.heap.size W (((W.alloc (.cells #[.int .i64 ar, .int .i64 au, .bool amb, .int .i64 ami, .string ams, .bool axb, .int .i64 axi, .string axs] 25)).alloc (.cells #[.int .i64 br, .int .i64 bu, .bool bmb, .int .i64 bmi, .string bms, .bool bxb, .int .i64 bxi, .string bxs] 25)).alloc (.cells #[.int .i64 0, .int .i64 0, .bool false, .int .i64 0, .string ⟨#[]⟩, .bool false, .int .i64 0, .string ⟨#[]⟩] 25))) := Lib.hid (by go_grown)
  have HV : Hid (∀ w, Below (((W.alloc (.cells #[.int .i64 ar, .int .i64 au, .bool amb, .int .i64 ami, .string ams, .bool axb, .int .i64 axi, .string axs] 25)).alloc (.cells #[.int .i64 br, .int .i64 bu, .bool bmb, .int .i64 bmi, .string bms, .bool bxb, .int .i64 bxi, .string bxs] 25)).alloc (.cells #[.int .i64 0, .int .i64 0, .bool false, .int .i64 0, .string ⟨#[]⟩, .bool false, .int .i64 0, .string ⟨#[]⟩] 25)).heap.size (((W.alloc (.cells #[.int .i64 ar, .int .i64 au, .bool amb, .int .i64 ami, .string ams, .bool axb, .int .i64 axi, .string axs] 25)).alloc (.cells #[.int .i64 br, .int .i64 bu, .bool bmb, .int .i64 bmi, .string bms, .bool bxb, .int .i64 bxi, .string bxs] 25)).alloc (.cells #[.int .i64 0, .int .i64 0, .bool false, .int .i64 0, .string ⟨#[]⟩, .bool false, .int .i64 0, .string ⟨#[]⟩] 25)) w →
      VarZ w W.heap.size ⟨ar, au, ⟨amb, ami, ams⟩, ⟨axb, axi, axs⟩⟩ ∧ VarZ w (W.heap.size + 1) ⟨br, bu, ⟨bmb, bmi, bms⟩, ⟨bxb, bxi, bxs⟩⟩ ∧ VarZ w (W.heap.size + 1 + 1) ⟨0, 0, vl0, vl0⟩) := Lib.hid fun w hb => by
    have h1 := ((HA.out.alloc (.cells #[.int .i64 br, .int .i64 bu, .bool bmb, .int .i64 bmi, .string bms, .bool bxb, .int .i64 bxi, .string bxs] 25)).alloc (.cells #[.int .i64 0, .int .i64 0, .bool false, .int .i64 0, .string ⟨#[]⟩, .bool false, .int .i64 0, .string ⟨#[]⟩] 25)).step hb
    have h2 := (HB.out.alloc (.cells #[.int .i64 0, .int .i64 0, .bool false, .int .i64 0, .string ⟨#[]⟩, .bool false, .int .i64 0, .string ⟨#[]⟩] 25)).step hb
    have h3 := HR.out.step hb
    simp only [World.size_alloc] at h2 h3
    exact ⟨h1, h2, h3⟩
  clear HA HB HR
  go_enter Try.func17, Try.ntmps17
  go_wp2_with fail
  refine Go.ConflA.wp_region_tail_at 23 (by simp only [List.take_succ_cons, List.take_zero, List.map_cons, List.map_nil]; rfl) (by kernel_rfl) (by kernel_rfl) (by kernel_rfl) (by kernel_rfl) (by kernel_rfl) (Nat.zero_lt_succ _) (by kernel_rfl) ?_
  simp only [List.take_succ_cons, List.take_zero, List.drop_succ_cons, List.drop_zero]
  iterate 23
    first
    | (refine Go.ConflA.chainA_skip (Go.Confl.unwanted_is rfl rfl) ?_)
    | (first | apply Go.ConflA.chainA_is _ (Go.Confl.wanted_none rfl) | apply Go.ConflA.chainA_is _ (Go.Confl.wanted_is rfl rfl)
       · intro b w hr hb K hK
         simp [Go.Confl.readFacts, Go.Confl.tmpsOf, Go.Confl.writerOf, Go.Confl.Is, Op.operands, Call.operands, List.findIdx?, List.findIdx?.go] at hr
         obtain ⟨⟨a0, a1, a2, a3, a4, a5, a6, a7, _⟩, ⟨c0, c1, c2, c3, c4, c5, c6, c7, _⟩, _⟩ := HV.out _ hb
         simp only at a0 a1 a2 a3 a4 a5 a6 a7 c0 c1 c2 c3 c4 c5 c6 c7
         go_wp2_with (first
           | (go_at_call 27; (with_reducible refine (HL _).out.mono ?_); rintro e w' ⟨rfl, hb'⟩)
           | (go_at_call 28; (with_reducible refine (HG _).out.mono ?_); rintro e w' ⟨rfl, hb'⟩))
         try (simp only [hr]; go_wp2)
         exact hK _ _ rfl (by first | exact Below.refl _ _ | assumption))
    simp only [List.nil_append, List.cons_append]
  intro us w hp hdist hb
  simp [Go.Confl.allPosts, Go.Confl.Is] at hp
  simp only [Go.Confl.putsFrom, Act.put, List.setIfInBounds_toArray, List.set_cons_zero, List.set_cons_succ]
  change wpList _ _ _ _ _ _
  obtain ⟨_, _, hres⟩ := HV.out w hb
  have hbw := bel_trans HBW.out hb
  have hP := hres.put ⟨r, u, ⟨pb, pi, ps⟩, ⟨qb, qi, qs⟩⟩
  have HPB := Lib.hid (put8_below (z := ⟨r, u, ⟨pb, pi, ps⟩, ⟨qb, qi, qs⟩⟩) hbw (show W.heap.size ≤ W.heap.size + 1 + 1 by omega))
  unfold put8 at hP HPB
  have HP := Lib.hid hP
  obtain ⟨f0, f1, f2, f3, f4, f5, f6, f7⟩ := hres.frz
  obtain ⟨r0, r1, r2, r3, r4, r5, r6, r7, _⟩ := hres
  simp only [hp]
  clear hp hdist hP hbw hb hv1 hv2 HV HBW HL HG
  go_wp2
  obtain ⟨m0, m1, m2, m3, m4, m5, m6, m7, _⟩ := HP.out
  simp only at m0 m1 m2 m3 m4 m5 m6 m7
  refine bodyPost_ret (v := (.agg #[.int .i64 r, .int .i64 u, .bool pb, .int .i64 pi, .string ps, .bool qb, .int .i64 qi, .string qs])) (by simp [results, Try.results17, go_sem, m0, m1, m2, m3, m4, m5, m6, m7]) rfl ?_
  exact RetB.mk rfl HPB.out
set_option maxRecDepth 100000 in
set_option maxHeartbeats 1000000 in
theorem putc_any (n : Int) (w : World) (hn : (Lit.int .i64 n).wf = true) : Calls Try.prog 46 #[.int .i64 n] w (RetB (.string (str (putL n.toNat))) w) := by
  obtain ⟨n1, n2⟩ := bounds_i64 hn
  by_cases h0 : 0 ≤ n
  · obtain ⟨k, rfl⟩ := Int.eq_ofNat_of_zero_le h0
    rw [Int.toNat_natCast]
    have HP := fun w => Lib.hid (vput_any k w (by omega))
    have hu : IntKind.u64.wrap (k : Int) = (k : Int) := IntWalk.u64_in _ ⟨by omega, by omega⟩
    clear hn n1 h0
    generalize str (putL k) = S at *
    go_enter Try.func46, Try.ntmps46
    go_wp2_with fail
    all_goals
      (with_reducible refine (HP _).out.mono ?_); rintro e w1 ⟨rfl, hb⟩
      go_wp2
      go_ret
      exact RetB.mk rfl hb
  · rw [show n.toNat = 0 from by omega]
    have HP : ∀ w, Hid (Calls Try.prog 58 #[.int .u64 0] w (RetB (.string (str (putL 0))) w)) := fun w => Lib.hid (vput_any 0 w (by omega))
    generalize str (putL 0) = S at *
    clear hn n1
    go_enter Try.func46, Try.ntmps46
    go_wp2_with fail
    all_goals
      (with_reducible refine (HP _).out.mono ?_); rintro e w1 ⟨rfl, hb⟩
      go_wp2
      go_ret
      exact RetB.mk rfl hb
set_option maxRecDepth 100000 in
set_option maxHeartbeats 4000000 in
theorem zput_any (rows nulls : Int) (mb : Bool) (mi : Int) (ms : ByteArray) (xb : Bool) (xi : Int) (xs : ByteArray) (W : World) (w0 : (Lit.int .i64 rows).wf = true) (w1 : (Lit.int .i64 nulls).wf = true) (w2 : (Lit.int .i64 mi).wf = true) (w3 : (Lit.int .i64 xi).wf = true) (z1 : ms.size ≤ 140737488351232) (z2 : xs.size ≤ 140737488351232) :
    Calls Try.prog 25 #[(.agg #[.int .i64 rows, .int .i64 nulls, .bool mb, .int .i64 mi, .string ms, .bool xb, .int .i64 xi, .string xs])] W (RetB (.string (str (putZ ⟨rows, nulls, ⟨mb, mi, ms⟩, ⟨xb, xi, xs⟩⟩))) W) := by
  have H1 := fun w => Lib.hid (putc_any rows w w0)
  have H2 := fun w => Lib.hid (putc_any nulls w w1)
  have H3 := fun w => Lib.hid (putV_any mb mi ms w w2 z1)
  have H4 := fun w => Lib.hid (putV_any xb xi xs w w3 z2)
  have l1 := putL_len10 (n := rows.toNat) (by have := bounds_i64 w0; omega)
  have l2 := putL_len10 (n := nulls.toNat) (by have := bounds_i64 w1; omega)
  have l3 := putV_len (b := mb) w2 z1
  have l4 := putV_len (b := xb) w3 z2
  have hp : putZ ⟨rows, nulls, ⟨mb, mi, ms⟩, ⟨xb, xi, xs⟩⟩ = putL rows.toNat ++ putL nulls.toNat ++ putV mb mi ms ++ putV xb xi xs := rfl
  rw [hp]; clear hp
  have HV := Lib.hid (show ∀ w, Below (W.alloc (.cells #[.int .i64 rows, .int .i64 nulls, .bool mb, .int .i64 mi, .string ms, .bool xb, .int .i64 xi, .string xs] 25)).heap.size (W.alloc (.cells #[.int .i64 rows, .int .i64 nulls, .bool mb, .int .i64 mi, .string ms, .bool xb, .int .i64 xi, .string xs] 25)) w → VarZ w W.heap.size ⟨rows, nulls, ⟨mb, mi, ms⟩, ⟨xb, xi, xs⟩⟩ from fun w hb =>
    (VarZ.new W ⟨rows, nulls, ⟨mb, mi, ms⟩, ⟨xb, xi, xs⟩⟩ 25).step hb)
  have HB := Lib.hid (show Below W.heap.size W (W.alloc (.cells #[.int .i64 rows, .int .i64 nulls, .bool mb, .int .i64 mi, .string ms, .bool xb, .int .i64 xi, .string xs] 25)) from by go_grown)
  generalize putL rows.toNat = p1 at *
  generalize putL nulls.toNat = p2 at *
  generalize putV mb mi ms = p3 at *
  generalize putV xb xi xs = p4 at *
  have a1 : ∀ w, (Op.stringOp .add (str p1) (str p2)).run Try.prog w = .ok (.string (str (p1 ++ p2))) w := fun w => by
    rw [run_string_add_sum w _ _ (by rw [str_size, str_size]; omega), str_append]
  have a2 : ∀ w, (Op.stringOp .add (str (p1 ++ p2)) (str p3)).run Try.prog w = .ok (.string (str (p1 ++ p2 ++ p3))) w := fun w => by
    rw [run_string_add_sum w _ _ (by rw [str_size, str_size, List.length_append]; omega), str_append]
  have a3 : ∀ w, (Op.stringOp .add (str (p1 ++ p2 ++ p3)) (str p4)).run Try.prog w = .ok (.string (str (p1 ++ p2 ++ p3 ++ p4))) w := fun w => by
    rw [run_string_add_sum w _ _ (by rw [str_size, str_size, List.length_append, List.length_append]; omega), str_append]
  clear l1 l2 l3 l4
  generalize str (p1 ++ p2) = q1 at *
  generalize str (p1 ++ p2 ++ p3) = q2 at *
  generalize str (p1 ++ p2 ++ p3 ++ p4) = q3 at *
  generalize str p1 = t1 at *
  generalize str p2 = t2 at *
  generalize str p3 = t3 at *
  generalize str p4 = t4 at *
  go_enter Try.func25, Try.ntmps25
  go_wp2_with fail
  refine Go.Confl.wp_region_confl (by simp only [List.map_cons, List.map_nil]; rfl) (by kernel_rfl) (by kernel_rfl) ?_
  iterate 16
    first
    | (refine Go.Confl.chain_skip (Go.Confl.unwanted_is rfl rfl) ?_)
    | (first | apply Go.Confl.chain_is _ (Go.Confl.wanted_none rfl) | apply Go.Confl.chain_is _ (Go.Confl.wanted_is rfl rfl)
       · intro b w hr hb K hK
         simp [Go.Confl.readFacts, Go.Confl.tmpsOf, Go.Confl.writerOf, Go.Confl.Is, Op.operands, Call.operands, List.findIdx?, List.findIdx?.go] at hr
         obtain ⟨c0, c1, c2, c3, c4, c5, c6, c7, _⟩ := HV.out _ hb
         simp only at c0 c1 c2 c3 c4 c5 c6 c7
         go_wp2_with (first
           | (go_at_call 46; (with_reducible refine (H1 _).out.mono ?_); rintro e w' ⟨rfl, hb'⟩)
           | (go_at_call 46; (with_reducible refine (H2 _).out.mono ?_); rintro e w' ⟨rfl, hb'⟩)
           | (go_at_call 47; (with_reducible refine (H3 _).out.mono ?_); rintro e w' ⟨rfl, hb'⟩)
           | (go_at_call 47; (with_reducible refine (H4 _).out.mono ?_); rintro e w' ⟨rfl, hb'⟩))
         try (simp only [hr]; go_wp2)
         exact hK _ _ rfl (by first | exact Below.refl _ _ | assumption))
    simp only [List.nil_append, List.cons_append]
  intro us w hp hb
  simp [Go.Confl.allPosts, Go.Confl.Is] at hp
  simp only [Go.Confl.putsFrom, hp, Act.put, List.setIfInBounds_toArray, List.set_cons_zero, List.set_cons_succ]
  go_wp2
  go_ret
  exact RetB.mk rfl (bel_trans HB.out hb)
set_option maxRecDepth 100000 in
set_option maxHeartbeats 4000000 in
theorem rputV_any (nul : Bool) (n : Int) (s : ByteArray) (W0 : World) (hn : (Lit.int .i64 n).wf = true) (hs : s.size ≤ 140737488351232) : Calls Try.prog 45 #[(.agg #[.bool nul, .int .i64 n, .string s])] W0 (RetB (.string (str (putV nul n s))) W0) := by
  cases nul
  · obtain ⟨n1, n2⟩ := bounds_i64 hn
    obtain ⟨z1, z2⟩ := zig_bd n1 n2
    have HZ := fun w => Lib.hid (rzig_any n w n1 n2)
    have hp : putV false n s = [1] ++ putL (zigN n).toNat ++ putL s.size ++ s.data.toList := rfl
    rw [hp]; clear hp
    generalize zigN n = z at *
    obtain ⟨k, rfl⟩ := Int.eq_ofNat_of_zero_le z1
    rw [Int.toNat_natCast]
    have hk : k < 18446744073709551616 := by omega
    have H1 := fun w => Lib.hid (rput_any k w hk)
    have H2 := fun w => Lib.hid (rput_any s.size w (by omega))
    have l1 := putL_len10 hk
    have l2 := putL_len10 (n := s.size) (by omega)
    generalize putL k = p1 at *
    generalize putL s.size = p2 at *
    have hz : (str p1).size = p1.length := str_size p1
    have hz2 : (str p2).size = p2.length := str_size p2
    have a1 : ∀ w, (Op.stringOp .add ⟨#[1]⟩ (str p1)).run Try.prog w = .ok (.string (str ([1] ++ p1))) w := fun w => by
      rw [show (⟨#[1]⟩ : ByteArray) = str [1] from rfl, run_string_add_sum w _ _ (by rw [str_size, str_size]; simp; omega), str_append]
    have a2 : ∀ w, (Op.stringOp .add (str ([1] ++ p1)) (str p2)).run Try.prog w = .ok (.string (str ([1] ++ p1 ++ p2))) w := fun w => by
      rw [run_string_add_sum w _ _ (by rw [str_size, str_size]; simp; omega), str_append]
    have a3 : ∀ w, (Op.stringOp .add (str ([1] ++ p1 ++ p2)) s).run Try.prog w = .ok (.string (str ([1] ++ p1 ++ p2 ++ s.data.toList))) w := fun w => by
      rw [run_string_add_sum w _ _ (by rw [str_size]; simp; omega)]
      rw [show str ([1] ++ p1 ++ p2) ++ s = str ([1] ++ p1 ++ p2) ++ str s.data.toList from rfl, str_append]
    have hu : IntKind.u64.wrap (s.size : Int) = (s.size : Int) := IntWalk.u64_in _ ⟨by omega, by omega⟩
    have hV := Var3.new W0 (.bool false) (.int .i64 n) (.string s) 23
    clear z1 z2 hz hz2 l1 l2
    generalize str ([1] ++ p1) = q1 at *
    generalize str ([1] ++ p1 ++ p2) = q2 at *
    generalize str ([1] ++ p1 ++ p2 ++ s.data.toList) = q3 at *
    generalize str p1 = t1 at *
    generalize str p2 = t2 at *
    go_enter Try.func45, Try.ntmps45
    go_wp2_with fail
    refine Go.Confl.wp_region_confl (by simp only [List.map_cons, List.map_nil]; rfl) (by kernel_rfl) (by kernel_rfl) ?_
    iterate 15
      first
      | (refine Go.Confl.chain_skip (Go.Confl.unwanted_is rfl rfl) ?_)
      | (first | apply Go.Confl.chain_is _ (Go.Confl.wanted_none rfl) | apply Go.Confl.chain_is _ (Go.Confl.wanted_is rfl rfl)
         · intro b w hr hb K hK
           simp [Go.Confl.readFacts, Go.Confl.tmpsOf, Go.Confl.writerOf, Go.Confl.Is, Op.operands, Call.operands, List.findIdx?, List.findIdx?.go] at hr
           obtain ⟨k0, k1, k2, _, _, _⟩ := hV.step hb
           go_wp2_with (first
             | (go_at_call 57; refine (HZ _).out.mono ?_; rintro e w' ⟨rfl, rfl⟩)
             | (go_at_call 44; (with_reducible refine (H1 _).out.mono ?_); rintro e w' ⟨rfl, hb'⟩)
             | (go_at_call 44; (with_reducible refine (H2 _).out.mono ?_); rintro e w' ⟨rfl, hb'⟩))
           try (simp only [hr]; go_wp2)
           exact hK _ _ rfl (by first | exact Below.refl _ _ | assumption))
      simp only [List.nil_append, List.cons_append]
    intro us w hp hb
    simp [Go.Confl.allPosts, Go.Confl.Is] at hp
    simp only [Go.Confl.putsFrom, hp, Act.put, List.setIfInBounds_toArray, List.set_cons_zero, List.set_cons_succ]
    go_wp2
    go_ret
    exact RetB.mk rfl (bel_trans (by go_grown) hb)
  · have hp : str (putV true n s) = ⟨#[0]⟩ := rfl
    rw [hp]; clear hp
    go_enter Try.func45, Try.ntmps45
    go_wp2
    go_ret
    exact RetB.mk rfl (by go_grown)
set_option maxRecDepth 100000 in
set_option maxHeartbeats 4000000 in
theorem rzput_any (rows nulls : Int) (mb : Bool) (mi : Int) (ms : ByteArray) (xb : Bool) (xi : Int) (xs : ByteArray) (W : World) (w0 : (Lit.int .i64 rows).wf = true) (w1 : (Lit.int .i64 nulls).wf = true) (w2 : (Lit.int .i64 mi).wf = true) (w3 : (Lit.int .i64 xi).wf = true) (z1 : ms.size ≤ 140737488351232) (z2 : xs.size ≤ 140737488351232) :
    Calls Try.prog 24 #[(.agg #[.int .i64 rows, .int .i64 nulls, .bool mb, .int .i64 mi, .string ms, .bool xb, .int .i64 xi, .string xs])] W (RetB (.string (str (putZ ⟨rows, nulls, ⟨mb, mi, ms⟩, ⟨xb, xi, xs⟩⟩))) W) := by
  have H1 : ∀ w, Hid (0 ≤ rows → Calls Try.prog 44 #[.int .u64 rows] w (RetB (.string (str (putL rows.toNat))) w)) := fun w => Lib.hid fun h => by
    obtain ⟨k, rfl⟩ := Int.eq_ofNat_of_zero_le h
    exact rput_any k w (by have := bounds_i64 w0; omega)
  have H2 : ∀ w, Hid (0 ≤ nulls → Calls Try.prog 44 #[.int .u64 nulls] w (RetB (.string (str (putL nulls.toNat))) w)) := fun w => Lib.hid fun h => by
    obtain ⟨k, rfl⟩ := Int.eq_ofNat_of_zero_le h
    exact rput_any k w (by have := bounds_i64 w1; omega)
  have H1' : ∀ w, Hid (rows ≤ 0 → Calls Try.prog 44 #[.int .u64 0] w (RetB (.string (str (putL rows.toNat))) w)) := fun w => Lib.hid fun h => by
    rw [show rows.toNat = 0 from by omega]; exact rput_any 0 w (by omega)
  have H2' : ∀ w, Hid (nulls ≤ 0 → Calls Try.prog 44 #[.int .u64 0] w (RetB (.string (str (putL nulls.toNat))) w)) := fun w => Lib.hid fun h => by
    rw [show nulls.toNat = 0 from by omega]; exact rput_any 0 w (by omega)
  have H3 := fun w => Lib.hid (rputV_any mb mi ms w w2 z1)
  have H4 := fun w => Lib.hid (rputV_any xb xi xs w w3 z2)
  have l1 := putL_len10 (n := rows.toNat) (by have := bounds_i64 w0; omega)
  have l2 := putL_len10 (n := nulls.toNat) (by have := bounds_i64 w1; omega)
  have l3 := putV_len (b := mb) w2 z1
  have l4 := putV_len (b := xb) w3 z2
  have hp : putZ ⟨rows, nulls, ⟨mb, mi, ms⟩, ⟨xb, xi, xs⟩⟩ = putL rows.toNat ++ putL nulls.toNat ++ putV mb mi ms ++ putV xb xi xs := rfl
  rw [hp]; clear hp
  have HV := Lib.hid (show ∀ w, Below (W.alloc (.cells #[.int .i64 rows, .int .i64 nulls, .bool mb, .int .i64 mi, .string ms, .bool xb, .int .i64 xi, .string xs] 25)).heap.size (W.alloc (.cells #[.int .i64 rows, .int .i64 nulls, .bool mb, .int .i64 mi, .string ms, .bool xb, .int .i64 xi, .string xs] 25)) w → VarZ w W.heap.size ⟨rows, nulls, ⟨mb, mi, ms⟩, ⟨xb, xi, xs⟩⟩ from fun w hb =>
    (VarZ.new W ⟨rows, nulls, ⟨mb, mi, ms⟩, ⟨xb, xi, xs⟩⟩ 25).step hb)
  have HB := Lib.hid (show Below W.heap.size W (W.alloc (.cells #[.int .i64 rows, .int .i64 nulls, .bool mb, .int .i64 mi, .string ms, .bool xb, .int .i64 xi, .string xs] 25)) from by go_grown)
  have HE : Hid (rows ≤ 0 → nulls ≤ 0 → str (putL nulls.toNat) = str (putL rows.toNat)) := Lib.hid fun h h' => by rw [show nulls.toNat = 0 from by omega, show rows.toNat = 0 from by omega]
  have HU1 : Hid (0 ≤ rows → IntKind.u64.wrap rows = rows) := Lib.hid fun h => IntWalk.u64_in _ ⟨by omega, by have := bounds_i64 w0; omega⟩
  have HU2 : Hid (0 ≤ nulls → IntKind.u64.wrap nulls = nulls) := Lib.hid fun h => IntWalk.u64_in _ ⟨by omega, by have := bounds_i64 w1; omega⟩
  generalize putL rows.toNat = p1 at *
  generalize putL nulls.toNat = p2 at *
  generalize putV mb mi ms = p3 at *
  generalize putV xb xi xs = p4 at *
  have a1 : ∀ w, (Op.stringOp .add (str p1) (str p2)).run Try.prog w = .ok (.string (str (p1 ++ p2))) w := fun w => by
    rw [run_string_add_sum w _ _ (by rw [str_size, str_size]; omega), str_append]
  have a2 : ∀ w, (Op.stringOp .add (str (p1 ++ p2)) (str p3)).run Try.prog w = .ok (.string (str (p1 ++ p2 ++ p3))) w := fun w => by
    rw [run_string_add_sum w _ _ (by rw [str_size, str_size, List.length_append]; omega), str_append]
  have a3 : ∀ w, (Op.stringOp .add (str (p1 ++ p2 ++ p3)) (str p4)).run Try.prog w = .ok (.string (str (p1 ++ p2 ++ p3 ++ p4))) w := fun w => by
    rw [run_string_add_sum w _ _ (by rw [str_size, str_size, List.length_append, List.length_append]; omega), str_append]
  clear l1 l2 l3 l4
  generalize str (p1 ++ p2) = q1 at *
  generalize str (p1 ++ p2 ++ p3) = q2 at *
  generalize str (p1 ++ p2 ++ p3 ++ p4) = q3 at *
  generalize str p1 = t1 at *
  generalize str p2 = t2 at *
  generalize str p3 = t3 at *
  generalize str p4 = t4 at *
  have hr : (∃ k : Nat, rows = (k : Int) ∧ 0 < k ∧ IntKind.u64.wrap (k : Int) = (k : Int) ∧ (∀ w, Calls Try.prog 44 #[.int .u64 (k : Int)] w (RetB (.string t1) w))) ∨ (rows ≤ 0 ∧ ∀ w, Calls Try.prog 44 #[.int .u64 0] w (RetB (.string t1) w)) := by
    by_cases h : 0 < rows
    · obtain ⟨k, hk⟩ := Int.eq_ofNat_of_zero_le (Int.le_of_lt h)
      exact .inl ⟨k, hk, by omega, by rw [← hk]; exact HU1.out (Int.le_of_lt h), fun w => by rw [← hk]; exact (H1 w).out (Int.le_of_lt h)⟩
    · exact .inr ⟨by omega, fun w => (H1' w).out (by omega)⟩
  have hn : (∃ k : Nat, nulls = (k : Int) ∧ 0 < k ∧ IntKind.u64.wrap (k : Int) = (k : Int) ∧ (∀ w, Calls Try.prog 44 #[.int .u64 (k : Int)] w (RetB (.string t2) w))) ∨ (nulls ≤ 0 ∧ ∀ w, Calls Try.prog 44 #[.int .u64 0] w (RetB (.string t2) w)) := by
    by_cases h : 0 < nulls
    · obtain ⟨k, hk⟩ := Int.eq_ofNat_of_zero_le (Int.le_of_lt h)
      exact .inl ⟨k, hk, by omega, by rw [← hk]; exact HU2.out (Int.le_of_lt h), fun w => by rw [← hk]; exact (H2 w).out (Int.le_of_lt h)⟩
    · exact .inr ⟨by omega, fun w => (H2' w).out (by omega)⟩
  clear H1 H2 H1' H2' HU1 HU2
  clear w0 w1 w2 w3 z1 z2
  rcases hr with ⟨k, rfl, hk, hu1, h1⟩ | ⟨hr, h1⟩
  all_goals
    rcases hn with ⟨k', rfl, hk', hu2, h2⟩ | ⟨hn, h2⟩
    all_goals
      (try (have he := HE.out hr hn; subst he))
      clear HE
      have H1 := fun w => Lib.hid (h1 w)
      have H2 := fun w => Lib.hid (h2 w)
      clear h1 h2
      go_enter Try.func24, Try.ntmps24
      go_wp2_with fail
      refine Go.Confl.wp_region_confl (by simp only [List.map_cons, List.map_nil]; rfl) (by kernel_rfl) (by kernel_rfl) ?_
      iterate 20
        first
        | (refine Go.Confl.chain_skip (Go.Confl.unwanted_is rfl rfl) ?_)
        | (first | apply Go.Confl.chain_is _ (Go.Confl.wanted_none rfl) | apply Go.Confl.chain_is _ (Go.Confl.wanted_is rfl rfl)
           · intro b w hr hb K hK
             simp [Go.Confl.readFacts, Go.Confl.tmpsOf, Go.Confl.writerOf, Go.Confl.Is, Op.operands, Call.operands, List.findIdx?, List.findIdx?.go] at hr
             obtain ⟨c0, c1, c2, c3, c4, c5, c6, c7, _⟩ := HV.out _ hb
             simp only at c0 c1 c2 c3 c4 c5 c6 c7
             go_wp2_with (first
               | (go_at_call 44; (with_reducible refine (H1 _).out.mono ?_); rintro e w' ⟨rfl, hb'⟩)
               | (go_at_call 44; (with_reducible refine (H2 _).out.mono ?_); rintro e w' ⟨rfl, hb'⟩)
               | (go_at_call 45; (with_reducible refine (H3 _).out.mono ?_); rintro e w' ⟨rfl, hb'⟩)
               | (go_at_call 45; (with_reducible refine (H4 _).out.mono ?_); rintro e w' ⟨rfl, hb'⟩))
             try (simp only [hr]; go_wp2)
             exact hK _ _ rfl (by first | exact Below.refl _ _ | assumption))
        simp only [List.nil_append, List.cons_append]
      intro us w hp hb
      simp [Go.Confl.allPosts, Go.Confl.Is] at hp
      simp only [Go.Confl.putsFrom, hp, Act.put, List.setIfInBounds_toArray, List.set_cons_zero, List.set_cons_succ]
      go_wp2
      go_ret
      exact RetB.mk rfl (bel_trans HB.out hb)
end Go.Proofs.Ythohmngckpjlbaa
