/- The walks over package wide: numberOf. -/
import Derived.Test.YtollobhkdbodlaaWidW6
import Derived.Test.YtollobhkdbodlaaWid2
namespace Go.WD
open Go.RowKit Go.VB Go.DT Go.DC
theorem nm_next {s : ByteArray} {j : Nat} (hj : j < s.size) (hd : digsT s) : 10 * ((nm s 0 j : Nat) : Int) + ((bN s j : Int) - 48) = ((nm s 0 (j + 1) : Nat) : Int) := by
  have h := nm_succ s 0 j (by omega)
  have h2 := hd j hj
  unfold dig at h2
  rw [Nat.zero_add] at h
  rw [h]; omega
end Go.WD
namespace Go.Proofs.Ytollobhkdbodlaa
open Go.RowKit Go.VB Go.WD Go.DT Go.DC
set_option maxRecDepth 100000 in
set_option maxHeartbeats 2000000 in
theorem wnumber_any (s : ByteArray) (w : World) (zs : s.size ≤ 140737488351232) (hd : digsT s) : Calls Try.prog 31 #[.string s] w (RetB (wd ((vl s : Nat) : Int)) w) := by
  have hg := get_bN s
  have h0 := fun w => Lib.hid (wof_any 0 w (by unfold I64w; omega))
  rw [wd_zero] at h0
  have hvl : vl s = nm s 0 s.size := rfl
  rw [hvl, wd_is]
  go_enter Try.func31, Try.ntmps31
  go_wp2_with fail
  have v2 := Var2.new w (.int .i64 0) (.int .u64 0) 24
  have hb0 : Below w.heap.size w (w.alloc (.cells #[.int .i64 0, .int .u64 0] 24)) := by go_grown
  refine (h0 _).out.mono ?_
  rintro e w1 ⟨rfl, hb1⟩
  replace hb0 := bel_trans hb0 hb1
  replace v2 := v2.step hb1
  clear hb1
  have hz : (0 : Int) = hi ((nm s 0 0 : Nat) : Int) := by rw [nm_zero]; unfold hi wrap64; omega
  have HZ := Lib.hid hz; clear hz
  have hz' : (0 : Int) = lo ((nm s 0 0 : Nat) : Int) := by rw [nm_zero]; unfold lo; omega
  have HZ' := Lib.hid hz'; clear hz'
  have hne := Nat.ne_of_lt v2.lt
  have hle := hb0.size
  have v3 := Var2.new w1 (.int .i64 0) (.int .u64 0) 24
  have hb1 := (Below.refl w1.heap.size w1).alloc (Nat.le_refl _) (.cells #[.int .i64 0, .int .u64 0] 24)
  replace hb0 := bel_trans hb0 hb1
  replace v2 := v2.step hb1
  clear hb1 h0
  go_wp2_with fail
  go_loopw [8] (fun i wr => ∃ j : Nat, i = .int .i64 j ∧ j ≤ s.size ∧ Var2 wr w.heap.size (.int .i64 0) (.int .u64 0) ∧ Var2 wr w1.heap.size (.int .i64 (hi ((nm s 0 j : Nat) : Int))) (.int .u64 (lo ((nm s 0 j : Nat) : Int))) ∧ Below w.heap.size w wr) (fun i _ => s.size - (intOf i).toNat)
  case atStart => exact ⟨0, rfl, Nat.zero_le _, v2, v3.cast (vint HZ.out.symm) (vint HZ'.out.symm), hb0⟩
  case round =>
    clear v2 v3 hb0
    obtain ⟨j, rfl, hj, v2, v3, hbel⟩ := hrel
    by_cases hlt : j < s.size
    · have hx := nm_next hlt hd
      have hV := hd j hlt
      unfold dig at hV
      have h1 := fun w => Lib.hid (wtimes_any ((nm s 0 j : Nat) : Int) w)
      have h2 := fun w => Lib.hid (wof_any ((bN s j : Int) - 48) w (by unfold I64w; omega))
      have h3 := fun w => Lib.hid (wadd_any (10 * ((nm s 0 j : Nat) : Int)) ((bN s j : Int) - 48) w)
      rw [hx] at h3
      clear hx hd hvl
      have hix : bN s j < 256 := bN_lt s j
      simp only [wd_is] at h1 h2 h3
      generalize g1 : hi ((nm s 0 (j + 1) : Nat) : Int) = p9 at *
      generalize g2 : lo ((nm s 0 (j + 1) : Nat) : Int) = u9 at *
      have G1 := Lib.hid g1; have G2 := Lib.hid g2; clear g1 g2
      generalize hi ((bN s j : Int) - 48) = p3 at *
      generalize lo ((bN s j : Int) - 48) = u3 at *
      generalize hi (10 * ((nm s 0 j : Nat) : Int)) = p2 at *
      generalize lo (10 * ((nm s 0 j : Nat) : Int)) = u2 at *
      generalize hi ((nm s 0 j : Nat) : Int) = p at *
      generalize lo ((nm s 0 j : Nat) : Int) = u at *
      generalize gV : bN s j = V at *
      have HV := fun (w' : World) (hb : Below wr.heap.size wr w') => Lib.hid (And.intro (bel_trans hbel hb) (And.intro (v2.step hb) (v3.step hb)))
      clear hbel v2 v3 HZ HZ'
      have hI : (0 : Int) ≤ (V : Int) - 48 := by omega
      go_wp2_with fail
      refine Go.ConflA.wp_region_tail_at 9 (by simp only [List.take_succ_cons, List.take_zero, List.map_cons, List.map_nil]; rfl) (by kernel_rfl) (by kernel_rfl) (by kernel_rfl) (by kernel_rfl) (by kernel_rfl) (Nat.zero_lt_succ _) (by kernel_rfl) ?_
      simp only [List.take_succ_cons, List.take_zero, List.drop_succ_cons, List.drop_zero]
      iterate 9
        first
        | (refine Go.ConflA.chainA_skip (Go.Confl.unwanted_is rfl rfl) ?_)
        | (first | apply Go.ConflA.chainA_is _ (Go.Confl.wanted_none rfl) | apply Go.ConflA.chainA_is _ (Go.Confl.wanted_is rfl rfl)
           · intro b w hr hb K hK
             simp [Go.Confl.readFacts, Go.Confl.tmpsOf, Go.Confl.writerOf, Go.Confl.Is, Op.operands, Call.operands, List.findIdx?, List.findIdx?.go] at hr
             obtain ⟨-, -, ⟨d0, d1, -, -⟩⟩ := (HV _ hb).out
             go_wp2_with (first
               | (go_at_call 32; (with_reducible refine (h1 _).out.mono ?_); rintro e w' ⟨rfl, hb'⟩)
               | (go_at_call 13; (with_reducible refine (h2 _).out.mono ?_); rintro e w' ⟨rfl, hb'⟩)
               | (go_at_call 12; (with_reducible refine (h3 _).out.mono ?_); rintro e w' ⟨rfl, hb'⟩))
             try (simp only [hr]; go_wp2)
             exact hK _ _ rfl (by first | exact Below.refl _ _ | assumption))
        simp only [List.nil_append, List.cons_append]
      intro us w hp hdist hb
      simp [Go.Confl.allPosts, Go.Confl.Is] at hp
      simp only [Go.Confl.putsFrom, Act.put, List.setIfInBounds_toArray, List.set_cons_zero, List.set_cons_succ]
      change wpList _ _ _ _ _ _
      clear h1 h2 h3 hdist hV hI
      obtain ⟨e0, e1, e2, e3, e4, e5, e6, e7, e8⟩ := hp
      simp only [e0, e1, e2, e3, e4, e5, e6, e7, e8]
      clear e0 e1 e2 e3 e4 e5 e6 e7 e8
      obtain ⟨hbel, v2, v3⟩ := (HV _ hb).out
      have v2' := v2.other hne (.int .i64 p9) (.int .u64 u9)
      have v3' := v3.set (.int .i64 p9) (.int .u64 u9)
      have hb' := set2_below hbel hle (.int .i64 p9) (.int .u64 u9)
      obtain ⟨d0, d1, d2, d3⟩ := v3
      clear HV hbel v2 hb gV hix
      go_wp2
      exact ⟨⟨j + 1, by go_num, by omega, v2', v3'.cast (vint G1.out) (vint G2.out), hb'⟩, by simp [intOf] <;> omega⟩
    · obtain rfl : j = s.size := by omega
      clear hlt hd hg
      clear HZ HZ'
      generalize hi ((nm s 0 s.size : Nat) : Int) = p at *
      generalize lo ((nm s 0 s.size : Nat) : Int) = u at *
      obtain ⟨c0, c1, c2, c3⟩ := v2
      obtain ⟨d0, d1, d2, d3⟩ := v3
      go_wp2
      refine bodyPost_ret (v := .agg #[.int .i64 p, .int .u64 u]) (by simp [results, Try.results31, go_sem, c0, c1]) rfl ?_
      exact RetB.mk rfl (set2_below hbel (Nat.le_refl _) _ _)
end Go.Proofs.Ytollobhkdbodlaa
