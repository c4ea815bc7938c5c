/- A statement of layer 12: ChunkExamples. -/
import Derived.Test.YtbolbbngncnecaaCkL
namespace Go.CK
open Go.RowKit Go.VB Go.VarM Go.RL Go.VS Go.VL Go.DL Go.Proofs.Ytbolbbngncnecaa
theorem pay5_2 : payB 1 2 [five, five, five] = [3, 10] := by
  rw [payB_2]
  show encR [5, 5, 5] = _
  rw [encR_cons, show fr 5 [5, 5] = 2 from rfl, show ([5, 5] : List Int).drop 2 = [] from rfl, encR_nil, List.append_nil, run1, putL_lt (by decide), putL_lt (by decide)]
  rfl
theorem pay5_1 : payB 1 1 [five, five, five] = [10, 10, 10] := by
  rw [payB_1]
  have h : one 1 five = [10] := by
    unfold one
    rw [if_neg (by decide), show (zigN five.n).toNat = 10 from by decide, putL_lt (by decide)]
    rfl
  unfold plainB
  show one 1 five ++ (one 1 five ++ (one 1 five ++ [])) = _
  rw [h]; rfl
theorem pay5_4 : 2 ≤ (payB 1 4 [five, five, five]).length := by
  rw [payB_4]
  show 2 ≤ (encX [5, 5, 5]).length
  have hd : df [5, 5, 5] ≠ [] := by
    intro e
    have := df_len ([5, 5, 5] : List Int)
    rw [e] at this
    simp at this
  rw [encX_in (by decide), List.length_append, encB_go hd, List.length_append]
  have h1 := putL_pos (zigN 5).toNat
  have h2 : 1 ≤ (blk ((df [5, 5, 5]).take 32)).length := by
    unfold blk
    rw [List.length_append, List.length_append]
    simp only [List.length_cons, List.length_nil]
    omega
  omega
theorem best5 : bestK 1 [five, five, five] = 2 := by
  unfold bestK
  rw [if_neg (by decide), pay5_2, pay5_1, if_pos (by decide), if_neg]
  have := pay5_4
  simp only [List.length_cons, List.length_nil]
  omega
theorem chunk5 : bestB 1 [five, five, five] = [2, 3, 0, 3, 10] ++ four (crcL [2, 3, 0, 3, 10]) := by
  have hs : some' [five, five, five] = [five, five, five] := rfl
  rw [← best_is, hs, best5]
  have hb : bodyB 1 ((2 : Nat) : Int) [five, five, five] = [2, 3, 0, 3, 10] := by
    unfold bodyB
    rw [hs, show ((2 : Nat) : Int) = 2 from rfl, pay5_2, if_neg (by decide)]
    rw [show ([five, five, five] : List Vl).length - ([five, five, five] : List Vl).length = 0 from rfl, show ([five, five, five] : List Vl).length = 3 from rfl, putL_lt (by decide), putL_lt (by decide)]
    rfl
  unfold buildB
  rw [hb]
theorem chk5 : ∀ x ∈ [five, five, five], chkV 1 false x = 0 := by
  intro x hx
  simp only [List.mem_cons, List.not_mem_nil, or_false] at hx
  rcases hx with rfl | rfl | rfl <;> rfl
end Go.CK
namespace Go.Proofs.Ytbolbbngncnecaa
open Go.RowKit Go.VB Go.VarM Go.BP Go.RL Go.VS Go.VL Go.DI Go.CK Go.NU Go.KV Go.ChangeShapes Go.WideShapes Go.ChangeAt
open Go.ChangeMaps (open_string)
set_option linter.constructorNameAsVariable false
set_option maxRecDepth 100000 in
set_option maxHeartbeats 4000000 in
theorem chunkExamples_lifted (os : Os) (started : os.Started) (H : Type) (enc : TypeId × Value → H) :
    ReturnsInHanded {} Try.checked os 3 .any (Rows.chunkExamplesSpec.pre6 enc Try.prog Try.f3 Rows.chunkExamplesRow.domain false) (Rows.chunkExamplesSpec.post enc Try.prog Try.f3 false true false false) := by
  refine law_lifted (C := Try.checked) (tb := 4) started Try.own Try.laidOut (by kernel_rfl) Try.func3
    (ChangeSpec.witness6 (enc := enc) (C := Try.checked) false ⟨#[], #[], []⟩ 8 (by kernel_rfl) (by kernel_rfl) (by kernel_rfl) (by kernel_rfl))
    rfl rfl Try.underlying4 (by kernel_rfl) (fun ds h => ?_) (fun W base args ds p hval0 hA0 hsz0 hlt => ?_)
  · have h' : ds.length = Try.f3.params.toList.length := h
    rw [Try.params3] at h'
    match ds, h' with
    | [], _ => rfl
  · have hval : ∀ (j : Nat) t v, Try.f3.params[j]? = some t → args[j]? = some v → Value.okWide Try.prog W .any base t v := hval0
    have hA : DataW.TrodAll enc Try.prog W 0 (fun _ => true) true Try.f3.params.toList args.toList ds p := hA0
    have hsz : (DataW.weightsEach Try.prog Try.f3.params.toList ds).all (· ≤ reachBytes) = true := hsz0
    rw [Try.params3] at hA hval hsz
    clear hA0 hval0 hsz0
    obtain ⟨hargs, rfl, rfl⟩ := trodAll_nil hA
    obtain rfl : args = #[] := by cases args; simp_all
    change Calls Try.prog 3 #[] W (RetB (.bool true) W)
    have hbx : ∀ x ∈ [five, five, five], -9223372036854775808 ≤ x.n ∧ x.n ≤ 9223372036854775807 := fun x hx => (five_ok x hx).2
    have henc : encE 1 false [five, five, five] = 0 := encE_none rfl (by decide) chk5
    have HENC := fun v w r => Lib.hid (cenc_any ⟨#[]⟩ 1 0 false v [five, five, five] w r hbx)
    have hcd : codC (str (bestB 1 [five, five, five])) = ((2 : Int), 0) := by
      rw [← best_is, show some' [five, five, five] = [five, five, five] from rfl, best5]
      exact codC_build (typ := 1) (k := 2) (by decide) (by decide)
    rw [encS_ok henc, henc] at HENC
    obtain ⟨S, hS⟩ : ∃ S, str (bestB 1 [five, five, five]) = S := ⟨_, rfl⟩
    have hsz : S.size = 9 := by rw [← hS, chunk5, str_size, List.length_append]; rfl
    have hex : S.extract 0 5 = ⟨#[2, 3, 0, 3, 10]⟩ := by
      rw [← hS, chunk5, extract_str, str_toList, List.drop_zero]
      rfl
    have HCD := fun w => Lib.hid (ccodec_any S w (by omega))
    rw [hS] at hcd
    simp only [hS] at HENC
    rw [hcd] at HCD
    have hd9 : ((S.size : Int) == 9) = true := by rw [hsz]; rfl
    have h59 : (5 : Int) ≤ (S.size : Int) := by omega
    have h59n : 5 ≤ S.size := by omega
    clear hbx henc hcd hS
    have HSZ := Lib.hid hsz
    go_enter Try.func3, Try.ntmps3
    go_wp2_with fail
    (with_reducible refine (three_any _).mono ?_); rintro e w1 ⟨v, rfl, hr, hb1⟩
    go_wp2_with fail
    (with_reducible refine (HENC _ _ hr).out.mono ?_); rintro e w2 ⟨rfl, hb2⟩
    go_wp2_with fail
    (with_reducible refine (HCD _).out.mono ?_); rintro e w3 ⟨rfl, hb3⟩
    have hB := bel_trans (bel_trans hb1 hb2) hb3
    clear hr hb1 hb2 hb3
    go_wp2
    go_ret
    exact RetB.mk rfl hB
theorem chunkExamples_holds : Rows.ChunkExamplesSaid :=
  OpenClaim.holds_of_wide 3 Try.f3 rfl rfl rfl rfl rfl rfl rfl ⟨rfl, rfl, rfl, rfl, rfl⟩ rfl rfl rfl rfl rfl (by kernel_rfl) Try.func3 (by kernel_rfl)
    (of_decide_eq_true (by kernel_rfl)) (by unfold Func.isWrapper; first | (rw [if_pos (by decide +kernel)]; kernel_rfl) | (rw [if_neg (by decide +kernel)]; exact ⟨rfl, rfl⟩))
    (fun os started H enc _ => chunkExamples_lifted os started H enc)
end Go.Proofs.Ytbolbbngncnecaa
