/- The walk over keep's Value; what operations of a region leave. -/
import Derived.Test.YtidlemedkjkmdaaDoorValP
import Derived.Test.YtidlemedkjkmdaaDoorValW7
import Derived.Test.YtidlemedkjkmdaaDoorConfl3
import Derived.Deep.RegionWith
namespace Go.VL
open Go.RowKit Go.VB
/-- A valid value of a column, as an operation's result. -/
def VPost (ty : Int) : Go.Confl.Post := fun v _ => ∃ nul n s, v = .agg #[.bool nul, .int .i64 n, .string s] ∧ VOK ty nul n s
theorem VPost.stable (ty : Int) : Go.Confl.Stable (VPost ty) := fun _ _ _ h _ => h
/-- A new variable of type api.Value, as an operation's result. -/
def NewV (W : World) : Go.Confl.Post := fun v w => ∃ b, v = .pointer (some ⟨b, 0, none⟩) ∧ W.heap.size ≤ b ∧ Var3 w b (.bool false) (.int .i64 0) (.string ⟨#[]⟩)
theorem NewV.stable (W : World) : Go.Confl.Stable (NewV W) := fun _ _ _ ⟨b, h1, h2, h3⟩ hb => ⟨b, h1, h2, h3.step hb⟩
theorem new2 (w : World) (x y : Value) (T : TypeId) (n : Nat) (hn : w.heap.size = n) : (w.alloc (.cells #[x, y] T)).drew.cell? ⟨n, 0, none⟩ = some x ∧ (w.alloc (.cells #[x, y] T)).drew.cell? ⟨n, 1, none⟩ = some y ∧
    (w.alloc (.cells #[x, y] T)).drew.frozen? ⟨n, 1, none⟩ = false ∧ n < (w.alloc (.cells #[x, y] T)).drew.heap.size := by
  subst hn; simp
theorem dist_ne {b c : Nat} (h : Value.pointer (some ⟨b, 0, none⟩) ≠ .pointer (some ⟨c, 0, none⟩)) : b ≠ c := fun e => h (by rw [e])
end Go.VL
namespace Go.Proofs.YtidlemedkjkmdaaDoor
open Go.RowKit Go.VB Go.VL Go.ChangeShapes Go.WideShapes Go.ChangeAt
set_option linter.constructorNameAsVariable false
set_option maxRecDepth 100000 in
set_option maxHeartbeats 2000000 in
theorem kValue_any (W : World) (v : Value) (zl : List Int) (nm : ByteArray) (ty sc : Int) (nu : Bool) (hr : RdI .i64 W W.heap.size v zl) (hw : ∀ z ∈ zl, (Lit.int .i64 z).wf = true) (hty : 1 ≤ ty ∧ ty ≤ 5) :
    Calls Tryd.prog 9 #[(.agg #[.string nm, .int .i64 ty, .int .i64 sc, .bool nu]), v] W (RetV (fun nul n s => VOK ty nul n s ∧ (nul = true → nu = true)) W.heap.size W) := by
  have hK : ∀ (w : World) (g : Nat), Src w w g g v zl → Hid (Calls Tryd.prog 23 #[.pointer (some ⟨g, 0, none⟩), (.agg #[.string nm, .int .i64 ty, .int .i64 sc, .bool nu])] w (RetV (fun nul n s => VOK ty nul n s ∧ (nul = true → nu = true)) g w)) := fun w g hs => by
    cases nu
    · exact Lib.hid (kval_false w w g g v zl nm ty sc hs hty)
    · exact Lib.hid (kval_true w w g g v zl nm ty sc hs hty)
  obtain ⟨A, c, rfl, hc, hm, hrr⟩ := hr
  have hr : RdI .i64 W W.heap.size (.slice A zl.length c) zl := ⟨A, c, rfl, hc, hm, hrr⟩
  clear hc hm hrr
  obtain ⟨X, hX⟩ : ∃ X, X = (((W.alloc (.cells #[.string nm, .int .i64 ty, .int .i64 sc, .bool nu] 26)).alloc (.cells #[.bool false, .int .i64 0, .string ⟨#[]⟩] 28)).alloc (.cells #[.slice A zl.length c, .int .i64 0] 68)).drew := ⟨_, rfl⟩
  have hBX : Below W.heap.size W X := by rw [hX]; exact ((((Below.refl _ _).alloc (Nat.le_refl _) _).alloc (by simp) _).alloc (by simp; omega) _).drew
  have hs : Src X X (W.heap.size + 1 + 1) (W.heap.size + 1 + 1) (.slice A zl.length c) zl := by
    obtain ⟨q1, q2, q3, q4⟩ := new2 ((W.alloc (.cells #[.string nm, .int .i64 ty, .int .i64 sc, .bool nu] 26)).alloc (.cells #[.bool false, .int .i64 0, .string ⟨#[]⟩] 28)) (.slice A zl.length c) (.int .i64 0) 68 (W.heap.size + 1 + 1) (by simp)
    rw [← hX] at q1 q2 q3 q4
    exact ⟨Below.refl _ _, Nat.le_refl _, q4, q1, ⟨0, q2, Nat.zero_le _⟩, q3, (hr.below hBX).more (by omega), hw⟩
  have hKX := Lib.hid (hK X _ hs).out
  have hV0 : Var3 X (W.heap.size + 1) (.bool false) (.int .i64 0) (.string ⟨#[]⟩) := by
    rw [hX]
    have h2 := (Var3.new (W.alloc (.cells #[.string nm, .int .i64 ty, .int .i64 sc, .bool nu] 26)) (.bool false) (.int .i64 0) (.string ⟨#[]⟩) 28).step ((Below.refl _ _).alloc (Nat.le_refl _) (.cells #[.slice A zl.length c, .int .i64 0] 68))
    rw [show (W.alloc (.cells #[.string nm, .int .i64 ty, .int .i64 sc, .bool nu] 26)).heap.size = W.heap.size + 1 from by simp] at h2
    exact ⟨h2.c0, h2.c1, h2.c2, h2.f0, h2.f1, h2.f2⟩
  have hV : ∀ w', Below (W.heap.size + 1 + 1) X w' → Hid (Var3 w' (W.heap.size + 1) (.bool false) (.int .i64 0) (.string ⟨#[]⟩)) := fun w' hb => Lib.hid (hV0.below hb (by omega))
  have hBW : ∀ w', Below (W.heap.size + 1 + 1) X w' → Hid (Below W.heap.size W w') := fun w' hb => Lib.hid (hBX.trans ⟨hb.os, hb.tape, hb.output, hb.size, fun b hlt => hb.block b (by omega)⟩)
  clear hr hw hs hV0 hBX hK
  subst hX
  have hF := fun w => Lib.hid (from_any A zl.length c w)
  go_enter Tryd.func9, Tryd.ntmps9
  go_wp2_with fail
  go_region_with (first
    | (go_at_call 24; refine (hF _).out.mono ?_; rintro e w' ⟨rfl, rfl⟩)
    | (go_at_call 23; refine hKX.out.mono ?_; rintro e w' ⟨nul, n, s, rfl, hv, hb⟩; obtain ⟨k0, k1, k2, f0, f1, f2⟩ := (hV _ hb).out))
  all_goals
    go_wp2
    have V' := Var3.set ⟨k0, k1, k2, f0, f1, f2⟩ (.bool nul) (.int .i64 n) (.string s)
    have hB' := set3_below (hBW _ hb).out (Nat.le_succ W.heap.size) (.bool nul) (.int .i64 n) (.string s)
    clear hBW hV hKX hF k0 k1 k2 f0 f1 f2 hb
    change Below W.heap.size W (((w'.setCell ⟨W.heap.size + 1, 0, none⟩ (.bool nul)).setCell ⟨W.heap.size + 1, 1, none⟩ (.int .i64 n)).setCell ⟨W.heap.size + 1, 2, none⟩ (.string s)) at hB'
    generalize ((w'.setCell ⟨W.heap.size + 1, 0, none⟩ (.bool nul)).setCell ⟨W.heap.size + 1, 1, none⟩ (.int .i64 n)).setCell ⟨W.heap.size + 1, 2, none⟩ (.string s) = w9 at *
    obtain ⟨m0, m1, m2, _, _, _⟩ := V'
    refine bodyPost_ret (v := (.agg #[.bool nul, .int .i64 n, .string s])) (by simp [results, Tryd.results9, go_sem, m0, m1, m2]) rfl ?_
    exact RetV.mk _ _ _ rfl hv hB'
end Go.Proofs.YtidlemedkjkmdaaDoor
