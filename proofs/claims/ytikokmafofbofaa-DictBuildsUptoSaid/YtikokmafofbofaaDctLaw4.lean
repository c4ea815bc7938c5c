/- The statement of layer 10 on Build and Encode, over arguments that are together of at most 1048576 values and letters. -/
import Derived.Test.YtikokmafofbofaaDctLaw
import Derived.Test.YtikokmafofbofaaUpto
namespace Go.Proofs.Ytikokmafofbofaa
open Go.RowKit Go.VB Go.VarM Go.BP Go.RL Go.DI Go.KS Go.ChangeShapes Go.WideShapes Go.ChangeAt
set_option linter.constructorNameAsVariable false
theorem enc_mid {l : List ByteArray} (h : ∀ x ∈ l, x.size ≤ 1048576) : (encD l).length ≤ 140737488355328 := by
  by_cases hl : 4096 < l.length
  · rw [encD_out hl]; simp
  · have h1 := srt_len l
    have h2 := wrds_le (ws := srt l) (n := 1048576) (fun x hx => h x (srt_mem.1 hx)) (by decide)
    have h3 := packed_le (u := idx l) (w := wdt (srt l).length) (by rw [idx_len]; omega) (wdt_le (by omega))
    have h4 := putL_len10 (n := (srt l).length) (by omega)
    have h5 : (srt l).length * (10 + 1048576) ≤ 4096 * (10 + 1048576) := Nat.mul_le_mul_right _ (by omega)
    rw [encD_in (by omega), encW, List.length_append, List.length_append]
    omega
set_option maxRecDepth 100000 in
set_option maxHeartbeats 4000000 in
theorem dbuilds_walk (v0 v1 : Value) (raw : List ByteArray) (zl : List Int) (W : World) (r0 : RdV Value.string W W.heap.size v0 raw) (hraw : raw.length ≤ 1048576) (hz : ∀ x ∈ raw, x.size ≤ 1048576) (rl : RdI .i64 W W.heap.size v1 zl) (wl : ∀ z ∈ zl, (Lit.int .i64 z).wf = true) :
    Calls Try.prog 4 #[v0, v1] W (RetB (.bool true) W) := by
  have HK := Lib.hid (klist_any W v1 zl rl wl)
  clear rl wl
  obtain ⟨A0, c0, _, rfl, rfl, hcc1, hcc2⟩ := r0.bds
  have HR0 := Lib.hid r0; have HZ := Lib.hid hz
  clear r0 hz
  go_enter Try.func4, Try.ntmps4
  go_wp2_with fail
  refine HK.out.mono ?_; rintro e w1 ⟨vx, lx, rfl, hown, hlx, hix, hB⟩
  obtain ⟨Ax, cx, _, rfl, rfl, hcx1, hcx2⟩ := hown.read.bds
  have hrx := hown.read
  have hr0 := HR0.out.step hB
  have hb1 := (Below.refl w1.heap.size w1).alloc (Nat.le_refl _) (.cells #[(.slice A0 raw.length c0), (.slice Ax lx.length cx)] 22)
  have hc0 : (w1.alloc (.cells #[(.slice A0 raw.length c0), (.slice Ax lx.length cx)] 22)).cell? ⟨w1.heap.size, 0, none⟩ = some (.slice A0 raw.length c0) := by simp
  have hc1 : (w1.alloc (.cells #[(.slice A0 raw.length c0), (.slice Ax lx.length cx)] 22)).cell? ⟨w1.heap.size, 1, none⟩ = some (.slice Ax lx.length cx) := by simp
  have hszg : w1.heap.size < (w1.alloc (.cells #[(.slice A0 raw.length c0), (.slice Ax lx.length cx)] 22)).heap.size := by simp
  have HX := Lib.hid hrx; have HX0 := Lib.hid hr0; have HIX := Lib.hid hix
  clear hown hrx hr0 hix HK HR0
  go_wp2_with fail
  generalize w1.alloc (.cells #[(.slice A0 raw.length c0), (.slice Ax lx.length cx)] 22) = w2 at hb1 hc0 hc1 hszg ⊢
  go_loopw [16] (fun i wr => ∃ j : Nat, i = .int .i64 j ∧ j ≤ 2 ∧ Below w2.heap.size w2 wr) (fun i _ => 2 - (intOf i).toNat)
  case atStart => exact ⟨0, rfl, by omega, Below.refl _ _⟩
  case round =>
    obtain ⟨j, rfl, hj, hbel⟩ := hrel
    by_cases hlt : j < 2
    · have hall : ∃ (A : Option Addr) (l : List ByteArray) (c : Nat), wr.cell? ⟨w1.heap.size, j, none⟩ = some (.slice A l.length c) ∧ RdV Value.string wr wr.heap.size (.slice A l.length c) l ∧ l.length ≤ 1048576 ∧ ∀ x ∈ l, x.size ≤ 1048576 := by
        have hb12 := hb1.trans (hbel.mono (Nat.le_of_lt hszg))
        rcases (by omega : j = 0 ∨ j = 1) with rfl | rfl
        · exact ⟨A0, raw, c0, (hbel.cell (show (⟨w1.heap.size, 0, none⟩ : Addr).block < w2.heap.size from hszg)).trans hc0, HX0.out.step hb12, hraw, HZ.out⟩
        · exact ⟨Ax, lx, cx, (hbel.cell (show (⟨w1.heap.size, 1, none⟩ : Addr).block < w2.heap.size from hszg)).trans hc1, HX.out.step hb12, by omega, fun x hx => Nat.le_trans (HIX.out x hx) (by decide)⟩
      obtain ⟨A, l, c, hcell, hr, hl, hs⟩ := hall
      have hm : ∀ x ∈ l, x.size ≤ maxLen := fun x hx => Nat.le_trans (hs x hx) (by decide)
      have he := enc_mid hs
      have HBD := Lib.hid (build_any _ l _ wr hr (Nat.le_refl _) (by omega) hm)
      have HRB := fun w (h : RdV Value.string w w.heap.size (.slice A l.length c) l) => Lib.hid (rbuild_any _ l _ w h (Nat.le_refl _) (by omega))
      have HEN := fun w (h : RdV Value.string w w.heap.size (.slice A l.length c) l) => Lib.hid (encode_any _ l _ w h (Nat.le_refl _) (by omega) hm he)
      have HRE := fun w (h : RdV Value.string w w.heap.size (.slice A l.length c) l) => Lib.hid (rencode_any _ l _ w h (Nat.le_refl _) (by omega) hm he)
      have HR := Lib.hid hr
      clear hr hs hm he
      generalize srt l = S at *
      generalize idx l = I at *
      generalize str (encD l) = T at *
      have ht := text_eq (s := T) (t := T) rfl
      go_wp2_with fail
      refine HBD.out.mono ?_; rintro e w3 ⟨a1, a2, rfl, ha1, ha2, hb⟩
      have hr := HR.out.step hb
      replace hbel := hbel.trans (hb.mono hbel.size)
      clear hb HBD HR hcell
      go_wp2_with fail
      refine (HRB _ hr).out.mono ?_; rintro e w4 ⟨b1, b2, rfl, hb1', hb2', hb⟩
      replace hr := hr.step hb; replace ha1 := ha1.step hb; replace ha2 := ha2.step hb
      replace hbel := hbel.trans (hb.mono hbel.size)
      clear hb HRB
      go_wp2_with fail
      refine (same_s_eq _ _ S _ _ ha1 hb1' (Nat.le_refl _)).mono ?_; rintro e w5 ⟨rfl, hb⟩
      replace hr := hr.step hb; replace ha2 := ha2.step hb; replace hb2' := hb2'.step hb
      replace hbel := hbel.trans (hb.mono hbel.size)
      clear hb ha1 hb1'
      go_wp2_with fail
      refine (same_n_eq _ _ I _ _ ha2 hb2' (Nat.le_refl _)).mono ?_; rintro e w6 ⟨rfl, hb⟩
      replace hr := hr.step hb
      replace hbel := hbel.trans (hb.mono hbel.size)
      clear hb ha2 hb2'
      go_wp2_with fail
      (with_reducible refine (HEN _ hr).out.mono ?_); rintro e w7 ⟨rfl, hb⟩
      replace hr := hr.step hb
      replace hbel := hbel.trans (hb.mono hbel.size)
      clear hb
      go_wp2_with fail
      (with_reducible refine (HRE _ hr).out.mono ?_); rintro e w8 ⟨rfl, hb⟩
      replace hbel := hbel.trans (hb.mono hbel.size)
      clear hb hr HEN HRE
      go_wp2_with fail
      go_roundw
      case rel => exact ⟨j + 1, by go_num, by omega, hbel⟩
      case measure => simp [intOf] <;> omega
    · have hbw := hB.trans ((hb1.trans (hbel.mono (Nat.le_of_lt hszg))).mono hB.size)
      go_wp2_with fail
      refine (awake10_any _).mono ?_; rintro e w9 ⟨rfl, hb⟩
      replace hbw := bel_trans hbw hb
      clear hb
      go_wp2
      go_ret
      exact RetB.mk rfl hbw
set_option maxRecDepth 100000 in
set_option maxHeartbeats 4000000 in
theorem dictBuilds_lifted (os : Os) (started : os.Started) (H : Type) (enc : TypeId × Value → H) (F : Stop.Interp) :
    ReturnsInHanded {} Try.checked os 4 .any ((Rows.OpenSpec.upto Rows.dictBuildsSpec).pre6 enc Try.prog Try.f4 Rows.dictBuildsUptoRow.domain false) (((Rows.OpenSpec.upto Rows.dictBuildsSpec).at F).post enc Try.prog Try.f4 false true false false) := by
  refine law_upto (C := Try.checked) (tb := 4) started Try.own Try.laidOut (by kernel_rfl) Try.func4
    (OpenSpec.witness (enc := enc) (C := Try.checked) (s := Rows.OpenSpec.upto Rows.dictBuildsSpec) (k := Rows.uptoSmall) rfl false ⟨#[], #[.slice none 0 0, .slice none 0 0], []⟩ 8 (by kernel_rfl) (by kernel_rfl) (by kernel_rfl) (x := ([.nil, .nil], [], [])) (by kernel_rfl) rfl (by kernel_rfl))
    rfl rfl Try.underlying4 (by kernel_rfl) (fun ds h => ?_) (fun W base args ds p hval0 hA0 hsz0 hlt hbk => ?_)
  · have h' : ds.length = Try.f4.params.toList.length := h
    rw [Try.params4] at h'
    match ds, h' with
    | [_, _], _ => rfl
  · have hval : ∀ (j : Nat) t v, Try.f4.params[j]? = some t → args[j]? = some v → Value.okWide Try.prog W .any base t v := hval0
    have hA : DataW.TrodAll enc Try.prog W 0 (fun _ => true) true Try.f4.params.toList args.toList ds p := hA0
    have hsz : (DataW.weightsEach Try.prog Try.f4.params.toList ds).all (· ≤ reachBytes) = true := hsz0
    rw [Try.params4] at hA hval hsz
    clear hA0 hval0 hsz0
    obtain ⟨v0, vs0, d0, ds0, p0, q0, hargs, rfl, rfl, h0, r0⟩ := trodAll_cons hA
    obtain ⟨v1, vs1, d1, ds1, p1, q1, rfl, rfl, rfl, h1, r1⟩ := trodAll_cons r0
    obtain ⟨rfl, rfl, rfl⟩ := trodAll_nil r1
    obtain rfl : args = #[v0, v1] := by cases args; simp_all
    obtain ⟨zl, rl, bl, ml, ul⟩ := open_rdS Try.underlying22 Try.underlying9 (by kernel_rfl) (hval 0 22 v0 rfl rfl) h0 hsz (j := 0) rfl rfl
    replace bl : zl.length ≤ 8796093022208 := by rw [show Try.prog.bytesOf 9 = 16 from by kernel_rfl] at bl; omega
    obtain ⟨zm, rm, wm, bm⟩ := open_rdI Try.underlying23 Try.underlying3 (by kernel_rfl) (hval 1 23 v1 rfl rfl) h1 hsz (j := 1) rfl rfl
    change Calls Try.prog 4 #[v0, v1] W (RetB (.bool true) W)
    have hbnd : zl.length ≤ 1048576 ∧ ∀ x ∈ zl, x.size ≤ 1048576 := by
      rcases ul with rfl | ⟨sp, rfl⟩
      · exact ⟨by simp, by simp⟩
      · have h1 := bulk_part (H := H) (l := [.slice (zl.map fun s => .lit (.string s.data.toList)) sp, d1]) (List.mem_cons_self ..)
        have h2 := bulk_slice (H := H) (zl.map fun s => .lit (.string s.data.toList)) sp
        have h3 := bulk_length (H := H) (zl.map fun s => .lit (.string s.data.toList))
        rw [List.length_map] at h3
        refine ⟨by omega, fun x hx => ?_⟩
        have h4 := bulk_part (H := H) (d := .lit (.string x.data.toList)) (l := zl.map fun s => .lit (.string s.data.toList)) (List.mem_map.2 ⟨x, hx, rfl⟩)
        rw [bulk_string, size_list] at h4
        omega
    exact dbuilds_walk v0 v1 zl zm W rl hbnd.1 hbnd.2 rm wm
theorem dictBuilds_upto : Rows.DictBuildsUptoSaid :=
  OpenClaim.holds_of_cond 4 Try.f4 rfl rfl rfl rfl rfl rfl rfl ⟨rfl, rfl, rfl, rfl, rfl⟩ rfl rfl rfl rfl rfl (by kernel_rfl) Try.func4 (by kernel_rfl)
    (of_decide_eq_true (by kernel_rfl)) (by unfold Func.isWrapper; first | (rw [if_pos (by decide +kernel)]; kernel_rfl) | (rw [if_neg (by decide +kernel)]; exact ⟨rfl, rfl⟩))
    (fun os started H enc _ F => dictBuilds_lifted os started H enc F)
end Go.Proofs.Ytikokmafofbofaa
