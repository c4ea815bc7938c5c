/- The statements' own maker of one valid value of a column. -/
import Derived.Test.YthohmngckpjlbaaKvals
namespace Go.KV
open Go.RowKit Go.VB Go.VL
/-- A valid value of a column is returned; what was there is as it was. -/
def RetO (ty : Int) (nu : Bool) (W : World) : Ending → World → Prop := fun e w' =>
  ∃ nul n s, e = .returned (.agg #[.bool nul, .int .i64 n, .string s]) ∧ (VOK ty nul n s ∧ (nul = true → nu = true)) ∧ Below W.heap.size W w'
theorem RetO.mk {ty : Int} {nu : Bool} {W w' : World} {x : Value} (nul : Bool) (n : Int) (s : ByteArray) (hx : x = .agg #[.bool nul, .int .i64 n, .string s]) (hp : VOK ty nul n s ∧ (nul = true → nu = true)) (hb : Below W.heap.size W w') : RetO ty nu W (.returned x) w' := ⟨nul, n, s, by rw [hx], hp, hb⟩
end Go.KV
namespace Go.Proofs.Ythohmngckpjlbaa
open Go.RowKit Go.VB Go.VL Go.KV
set_option maxRecDepth 100000 in
set_option maxHeartbeats 1000000 in
theorem kone_any (W : World) (v : Value) (zl : List Int) (nm : ByteArray) (ty sc : Int) (nu : Bool) (hr : RdI .i64 W W.heap.size v zl) (hw : ∀ z ∈ zl, (Lit.int .i64 z).wf = true) (hty : 1 ≤ ty ∧ ty ≤ 5) :
    Calls Try.prog 20 #[(.agg #[.string nm, .int .i64 ty, .int .i64 sc, .bool nu]), v] W (RetO ty nu W) := by
  have hK : ∀ (w0 w : World) (g : Nat) (v : Value), Src w0 w g g v zl → Hid (Calls Try.prog 31 #[.pointer (some ⟨g, 0, none⟩), (.agg #[.string nm, .int .i64 ty, .int .i64 sc, .bool nu])] w (RetS (fun nul n s => VOK ty nul n s ∧ (nul = true → nu = true)) w0 g g v zl)) := fun w0 w g v hs => by
    cases nu
    · exact Lib.hid (sval_false w0 w g g v zl nm ty sc hs hty)
    · exact Lib.hid (sval_true w0 w g g v zl nm ty sc hs hty)
  obtain ⟨A, c, rfl, hc, hm, hrr⟩ := hr
  have hr : RdI .i64 W W.heap.size (.slice A zl.length c) zl := ⟨A, c, rfl, hc, hm, hrr⟩
  clear hc hm hrr
  have hB2 : Below W.heap.size W ((W.alloc (.cells #[.string nm, .int .i64 ty, .int .i64 sc, .bool nu] 32)).alloc (.cells #[.bool false, .int .i64 0, .string ⟨#[]⟩] 23)) := by go_grown
  have hS2 : ((W.alloc (.cells #[.string nm, .int .i64 ty, .int .i64 sc, .bool nu] 32)).alloc (.cells #[.bool false, .int .i64 0, .string ⟨#[]⟩] 23)).heap.size = W.heap.size + 1 + 1 := by simp
  have hR2 := hr.step hB2
  have hs := Src.made hR2 hw 74
  have hV2 := Var3.new (W.alloc (.cells #[.string nm, .int .i64 ty, .int .i64 sc, .bool nu] 32)) (.bool false) (.int .i64 0) (.string ⟨#[]⟩) 23
  rw [show (W.alloc (.cells #[.string nm, .int .i64 ty, .int .i64 sc, .bool nu] 32)).heap.size = W.heap.size + 1 from by simp] at hV2
  have hV3 := hV2.step ((Below.refl _ _).alloc (Nat.le_refl _) (.cells #[.slice A zl.length c, .int .i64 0] 74))
  have hB3 := bel_trans hB2 ((Below.refl _ _).alloc (Nat.le_refl _) (.cells #[.slice A zl.length c, .int .i64 0] 74))
  rw [hS2] at hs
  have hKX := Lib.hid (hK _ _ _ _ hs.drew).out
  have hV := Lib.hid (show ∀ w', Src (((W.alloc (.cells #[.string nm, .int .i64 ty, .int .i64 sc, .bool nu] 32)).alloc (.cells #[.bool false, .int .i64 0, .string ⟨#[]⟩] 23)).alloc (.cells #[.slice A zl.length c, .int .i64 0] 74)) w' (W.heap.size + 1 + 1) (W.heap.size + 1 + 1) (.slice A zl.length c) zl → Var3 w' (W.heap.size + 1) (.bool false) (.int .i64 0) (.string ⟨#[]⟩) ∧ Below W.heap.size W w' from fun w' h =>
    ⟨hV3.below h.below (Nat.lt_succ_self _), hB3.trans (h.below.mono (by omega))⟩)
  have hF := fun w => Lib.hid (sfrom_any A zl.length c w)
  clear hr hw hs hB2 hS2 hR2 hV2 hV3 hB3 hK
  go_enter Try.func20, Try.ntmps20
  go_wp2_with fail
  go_region_with (first
    | (go_at_call 29; refine (hF _).out.mono ?_; rintro e w' ⟨rfl, rfl⟩)
    | (go_at_call 31; refine hKX.out.mono ?_; rintro e w' ⟨nul, n, s, rfl, hv, hsr⟩; obtain ⟨⟨k0, k1, k2, f0, f1, f2⟩, hb⟩ := hV.out _ hsr))
  all_goals
    go_wp2
    have V' := Var3.set ⟨k0, k1, k2, f0, f1, f2⟩ (.bool nul) (.int .i64 n) (.string s)
    have hB' := set3_below hb (Nat.le_succ W.heap.size) (.bool nul) (.int .i64 n) (.string s)
    clear hV hKX hF k0 k1 k2 f0 f1 f2 hb
    change Below W.heap.size W (((w'.setCell ⟨W.heap.size + 1, 0, none⟩ (.bool nul)).setCell ⟨W.heap.size + 1, 1, none⟩ (.int .i64 n)).setCell ⟨W.heap.size + 1, 2, none⟩ (.string s)) at hB'
    generalize ((w'.setCell ⟨W.heap.size + 1, 0, none⟩ (.bool nul)).setCell ⟨W.heap.size + 1, 1, none⟩ (.int .i64 n)).setCell ⟨W.heap.size + 1, 2, none⟩ (.string s) = w9 at *
    obtain ⟨m0, m1, m2, _, _, _⟩ := V'
    refine bodyPost_ret (v := (.agg #[.bool nul, .int .i64 n, .string s])) (by simp [results, Try.results20, go_sem, m0, m1, m2]) rfl ?_
    exact RetO.mk _ _ _ rfl hv hB'
end Go.Proofs.Ythohmngckpjlbaa
