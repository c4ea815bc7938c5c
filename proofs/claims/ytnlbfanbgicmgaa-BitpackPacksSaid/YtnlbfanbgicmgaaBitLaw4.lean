/- The statement of layer 2 on packing, out of the contracts. -/
import Derived.Test.YtnlbfanbgicmgaaBitLaw2
namespace Go.Proofs.Ytnlbfanbgicmgaa
open Go.RowKit Go.VB Go.VarM Go.BP Go.ChangeShapes Go.WideShapes Go.ChangeAt
open Go.ChangeMaps (open_string)
set_option linter.constructorNameAsVariable false
set_option maxRecDepth 100000 in
set_option maxHeartbeats 2000000 in
theorem packs_walk (v0 : Value) (l : List Nat) (k : Int) (W : World) (rl : RdN .u64 W W.heap.size v0 l) (hl : ∀ x ∈ l, x < 2 ^ 64) :
    Calls Try.prog 6 #[v0, .int .i64 k, .bool false] W (RetB (.bool true) W) := by
  obtain ⟨⟨s, c⟩, hp⟩ : ∃ p, packR l k = p := ⟨_, rfl⟩
  have HP := Lib.hid hp; clear hp
  go_enter Try.func6, Try.ntmps6
  go_wp2_with fail
  refine (bpack_eq _ l _ _ _ rl (Nat.le_refl _) hl HP.out).mono ?_
  rintro e w1 ⟨rfl, hB⟩
  replace rl := rl.step hB
  go_wp2_with fail
  refine (rpack_eq _ l _ _ _ rl (Nat.le_refl _) hl HP.out).mono ?_
  rintro e w2 ⟨rfl, hb⟩
  replace hB := bel_trans hB hb
  clear rl hb
  go_wp2_with fail
  refine (awake2_any _).mono ?_
  rintro e w3 ⟨rfl, hb⟩
  replace hB := bel_trans hB hb
  clear hb
  go_wp2
  go_ret
  exact RetB.mk rfl hB
theorem shr_some (V E : Nat) : ∃ V' : Nat, (V : Int) / 2 ^ E = V' ∧ V' ≤ V := ⟨V / 2 ^ E, by push_cast; rfl, Nat.div_le_self _ _⟩
theorem set_lt64 {l : List Nat} {i y : Nat} (h : ∀ x ∈ l, x < 2 ^ 64) (hy : y < 2 ^ 64) : ∀ x ∈ l.set i y, x < 2 ^ 64 := set_lt h hy
set_option maxRecDepth 100000 in
set_option maxHeartbeats 2000000 in
theorem packs_small (v0 : Value) (l : List Nat) (k : Int) (W : World) (rl : RdN .u64 W W.heap.size v0 l) (hl : ∀ x ∈ l, x < 2 ^ 64) (hlen : l.length * 8 ≤ 140737488351232) (wk : (Lit.int .i64 k).wf = true) :
    Calls Try.prog 6 #[v0, .int .i64 k, .bool true] W (RetB (.bool true) W) := by
  have ha := pickN_bd k (n := 67) (by decide)
  have HPK := fun w => Lib.hid (pick_at k 67 w wk (by decide) (by decide))
  generalize pickN k 67 = a at *
  obtain ⟨a1, a2⟩ := ha
  have rl2 := rl
  obtain ⟨A, c, rfl, hc1, hc2, _⟩ := rl2
  unfold maxLen at hc2
  go_enter Try.func6, Try.ntmps6
  go_wp2_with fail
  refine (HPK _).out.mono ?_; rintro e w' ⟨rfl, rfl⟩
  go_wp2_with fail
  go_loopw [0, 18] (fun v i wr => ∃ (j : Nat) (cur : List Nat), i = .int .i64 j ∧ j ≤ l.length ∧ cur.length = l.length ∧ (∀ x ∈ cur, x < 2 ^ 64) ∧ RdN .u64 wr wr.heap.size v cur ∧ Below W.heap.size W wr) (fun _ i _ => l.length - (intOf i).toNat)
  case atStart => exact ⟨0, l, rfl, Nat.zero_le _, rfl, hl, rl, Below.refl _ _⟩
  case round =>
    obtain ⟨j, cur, rfl, hj, hcl, hcur, hrd, hbel⟩ := hrel
    have HCL := Lib.hid hcl; clear hcl
    by_cases hlt : j < l.length
    · have hcl2 : cur.length ≤ l.length := Nat.le_of_eq HCL.out
      go_wp2_with (at_builtin; refine wpl_appN rfl _ _ 32 rfl wr.heap.size 23 .u64 8 Try.underlying32 Try.infoU64 _ [] rfl (OwnN.nil _ _ _ _) wr.heap.size _ cur rfl hrd (by unfold maxLen; simp; omega) (by simp; omega) (Nat.le_refl _) ?_)
      intro v5 w5 hown5 hb _
      have hown : OwnN .u64 23 w5 wr.heap.size v5 cur := hown5
      have hWw := hbel.size
      replace hbel := bel_trans hbel hb
      clear hown5 hb hrd
      rcases hown.forms with ⟨rfl, hnil⟩ | ⟨g, c5, rfl, hrow⟩
      · exact absurd (HCL.out) (by rw [hnil]; simp; omega)
      · have hjc : j < cur.length := by rw [HCL.out]; exact hlt
        have hc := hrow.cell j hjc
        have hf := hrow.frozen j
        have hVl := hcur _ (get_mem hjc)
        generalize cur.getD j 0 = V at hc hVl
        clear hown
        have hWg : W.heap.size ≤ g := Nat.le_trans hWw hrow.lt.1
        by_cases hlo : a ≤ 1
        · obtain ⟨V', hV', hle⟩ := shr_some V 64
          rw [show ((2 : Int) ^ 64) = 18446744073709551616 from by decide] at hV'
          have HV := Lib.hid hV'; clear hV'
          go_wp2_with fail
          clear hc hf
          go_roundw
          case rel =>
            refine ⟨j + 1, cur.set j V', by go_num, hlt, by rw [List.length_set]; exact HCL.out, set_lt64 hcur (Nat.lt_of_le_of_lt hle hVl), ?_, hbel.setCell hWg _⟩
            rw [HV.out]; exact ((hrow.store j V').own_at (by rw [List.length_set]) rfl).read
          case measure => simp [intOf] <;> omega
        · by_cases hhi : 65 < a
          · go_wp2_with fail
            clear hc hf
            go_roundw
            case rel => exact ⟨j + 1, cur.set j V, by go_num, hlt, by rw [List.length_set]; exact HCL.out, set_lt64 hcur hVl, ((hrow.store j V).own_at (by rw [List.length_set]) rfl).read, hbel.setCell hWg _⟩
            case measure => simp [intOf] <;> omega
          · obtain ⟨V', hV', hle⟩ := shr_some V (64 - if a - 1 < 64 then a - 1 else 64).toNat
            have HV := Lib.hid hV'; clear hV'
            go_wp2_with fail
            clear hc hf
            go_roundw
            case rel =>
              refine ⟨j + 1, cur.set j V', by go_num, hlt, by rw [List.length_set]; exact HCL.out, set_lt64 hcur (Nat.lt_of_le_of_lt hle hVl), ?_, hbel.setCell hWg _⟩
              rw [HV.out]; exact ((hrow.store j V').own_at (by rw [List.length_set]) rfl).read
            case measure => simp [intOf] <;> omega
    · obtain ⟨⟨s, c⟩, hp⟩ : ∃ p, packR cur (a - 1) = p := ⟨_, rfl⟩
      have HP := Lib.hid hp; clear hp
      go_wp2_with fail
      refine (bpack_eq _ cur _ _ _ hrd (Nat.le_refl _) hcur HP.out).mono ?_
      rintro e w1 ⟨rfl, hb⟩
      replace hrd := hrd.step hb
      replace hbel := bel_trans hbel hb
      clear hb
      go_wp2_with fail
      refine (rpack_eq _ cur _ _ _ hrd (Nat.le_refl _) hcur HP.out).mono ?_
      rintro e w2 ⟨rfl, hb⟩
      replace hbel := bel_trans hbel hb
      clear hrd hb
      go_wp2_with fail
      refine (awake2_any _).mono ?_
      rintro e w3 ⟨rfl, hb⟩
      replace hbel := bel_trans hbel hb
      clear hb
      go_wp2
      go_ret
      exact RetB.mk rfl hbel
set_option maxRecDepth 100000 in
set_option maxHeartbeats 4000000 in
theorem bitpackPacks_lifted (os : Os) (started : os.Started) (H : Type) (enc : TypeId × Value → H) :
    ReturnsInHanded {} Try.checked os 6 .any (Rows.bitpackPacksSpec.pre6 enc Try.prog Try.f6 Rows.bitpackPacksRow.domain false) (Rows.bitpackPacksSpec.post enc Try.prog Try.f6 false true false false) := by
  refine law_lifted (C := Try.checked) (tb := 4) started Try.own Try.laidOut (by kernel_rfl) Try.func6
    (ChangeSpec.witness6 (enc := enc) (C := Try.checked) false ⟨#[], #[.slice none 0 0, .int .i64 0, .bool false], []⟩ 8 (by kernel_rfl) (by kernel_rfl) (by kernel_rfl) (by kernel_rfl))
    rfl rfl Try.underlying4 (by kernel_rfl) (fun ds h => ?_) (fun W base args ds p hval0 hA0 hsz0 hlt => ?_)
  · have h' : ds.length = Try.f6.params.toList.length := h
    rw [Try.params6] at h'
    match ds, h' with
    | [_, _, _], _ => rfl
  · have hval : ∀ (j : Nat) t v, Try.f6.params[j]? = some t → args[j]? = some v → Value.okWide Try.prog W .any base t v := hval0
    have hA : DataW.TrodAll enc Try.prog W 0 (fun _ => true) true Try.f6.params.toList args.toList ds p := hA0
    have hsz : (DataW.weightsEach Try.prog Try.f6.params.toList ds).all (· ≤ reachBytes) = true := hsz0
    rw [Try.params6] at hA hval hsz
    clear hA0 hval0 hsz0
    obtain ⟨v0, vs0, d0, ds0, p0, q0, hargs, rfl, rfl, h0, r0⟩ := trodAll_cons hA
    obtain ⟨v1, vs1, d1, ds1, p1, q1, rfl, rfl, rfl, h1, r1⟩ := trodAll_cons r0
    obtain ⟨v2, vs2, d2, ds2, p2, q2, rfl, rfl, rfl, h2, r2⟩ := trodAll_cons r1
    obtain ⟨rfl, rfl, rfl⟩ := trodAll_nil r2
    obtain rfl : args = #[v0, v1, v2] := by cases args; simp_all
    obtain ⟨zl, rl, wl, bl⟩ := open_rdI Try.underlying32 Try.underlying23 (by kernel_rfl) (hval 0 32 v0 rfl rfl) h0 hsz (j := 0) rfl rfl
    obtain ⟨k, rfl, rfl, rfl, wk⟩ := open_int Try.underlying3 (hval 1 3 v1 rfl rfl) h1
    obtain ⟨b, rfl, rfl, rfl⟩ := open_bool Try.underlying4 (hval 2 4 v2 rfl rfl) h2
    change Calls Try.prog 6 #[v0, .int .i64 k, .bool b] W (RetB (.bool true) W)
    have hn := fun z h => (wf_u64 (wl z h)).1
    have rn := rl.toN hn
    have hx : ∀ x ∈ zl.map Int.toNat, x < 2 ^ 64 := fun x h => by
      obtain ⟨z, hz, rfl⟩ := List.mem_map.1 h
      exact (wf_u64 (wl z hz)).2
    cases b
    · exact packs_walk v0 _ k W rn hx
    · exact packs_small v0 _ k W rn hx (by rw [List.length_map]; exact bl) wk
theorem bitpackPacks_holds : Rows.BitpackPacksSaid :=
  OpenClaim.holds_of_wide 6 Try.f6 rfl rfl rfl rfl rfl rfl rfl ⟨rfl, rfl, rfl, rfl, rfl⟩ rfl rfl rfl rfl rfl (by kernel_rfl) Try.func6 (by kernel_rfl)
    (of_decide_eq_true (by kernel_rfl)) (by unfold Func.isWrapper; first | (rw [if_pos (by decide +kernel)]; kernel_rfl) | (rw [if_neg (by decide +kernel)]; exact ⟨rfl, rfl⟩))
    (fun os started H enc _ => bitpackPacks_lifted os started H enc)
end Go.Proofs.Ytnlbfanbgicmgaa
