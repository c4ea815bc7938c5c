/- The walk over the reference's reading of a text's parts. -/
import Derived.Test.YtidlemedkjkmdaaDoorDecW5
import Derived.BigQuiet
import Derived.BigRegion
import Derived.Test.YtidlemedkjkmdaaDoorDecW6
namespace Go.DC
open Go.VB Go.DT Go.RowKit
theorem results_tmp4' {fn : Func} {t u v x : Tmp} {P : Program} (h : fn.results = #[.tmp t, .tmp u, .tmp v, .tmp x]) (tmps : Array Value) (w : World) :
    (results fn tmps).run P w = .ok (.tuple #[tmps.getD t undef, tmps.getD u undef, tmps.getD v undef, tmps.getD x undef]) w := by
  simp [results, h]
/-- It returns the parts of the text s, where it has the form; else a false at the end. -/
def RetDF (s : ByteArray) (w : World) : Ending → World → Prop := fun e w' => Below w.heap.size w w' ∧
  ((okF s ∧ e = .returned (.tuple #[.bool (ngb s), .string (ip (body s)), .string (fp (body s)), .bool true])) ∨ (¬ okF s ∧ ∃ (b : Bool) (i f : ByteArray), e = .returned (.tuple #[.bool b, .string i, .string f, .bool false])))
theorem RetDF.fail {s : ByteArray} {w w' : World} {b z : Bool} {i f : ByteArray} {x : Value} (h : ¬ okF s) (hz : z = false) (hx : x = .tuple #[.bool b, .string i, .string f, .bool z]) (hb : Below w.heap.size w w') : RetDF s w (.returned x) w' := ⟨hb, .inr ⟨h, b, i, f, by rw [hx, hz]⟩⟩
theorem RetDF.ok {s : ByteArray} {w w' : World} {b z : Bool} {i f : ByteArray} {x : Value} (h : okF s) (hn : ngb s = b) (hi : ip (body s) = i) (hf : fp (body s) = f) (hz : z = true) (hx : x = .tuple #[.bool b, .string i, .string f, .bool z]) (hb : Below w.heap.size w w') : RetDF s w (.returned x) w' := ⟨hb, .inl ⟨h, by rw [hx, hn, hi, hf, hz]⟩⟩
theorem nokF_B {s t : ByteArray} (hb : body s = t) (h : ¬ okB t) : ¬ okF s := fun hk => h (by rw [← hb]; exact hk.1)
theorem nokF_Z {s t : ByteArray} (hb : body s = t) (hn : ngb s = true) (h : allz (ip t ++ fp t) = true) : ¬ okF s := fun hk => hk.2 (by
  rw [allz_app, Bool.and_eq_true] at h
  rw [hb]; exact ⟨hn, h.1, h.2⟩)
theorem okF_of {s t : ByteArray} {b : Bool} (hb : body s = t) (hn : ngb s = b) (h : okB t) (hz : ¬ (b = true ∧ allz (ip t ++ fp t) = true)) : okF s := by
  refine ⟨by rw [hb]; exact h, fun hk => hz ⟨by rw [← hn]; exact hk.1, ?_⟩⟩
  rw [hb] at hk
  rw [allz_app, hk.2.1, hk.2.2]; rfl
/-- Whether the first j bytes are zeros. -/
def zUp (t : ByteArray) (j : Nat) : Prop := ∀ k, k < j → bN t k = 48
theorem zUp_zero (t : ByteArray) : true = true ↔ zUp t 0 := ⟨fun _ => none_below, fun _ => rfl⟩
theorem zUp_go {t : ByteArray} {j : Nat} (h : true = true ↔ zUp t j) (h1 : bN t j = 48) : true = true ↔ zUp t (j + 1) := ⟨fun _ => snoc (h.1 rfl) h1, fun _ => rfl⟩
theorem zUp_stop {t : ByteArray} {j : Nat} (h1 : ¬ bN t j = 48) : false = true ↔ zUp t (j + 1) := ⟨fun h => (by cases h), fun h => absurd (h j (Nat.lt_succ_self j)) h1⟩
theorem zUp_no {t : ByteArray} {j : Nat} (h : false = true ↔ zUp t j) : false = true ↔ zUp t (j + 1) := ⟨fun h => (by cases h), fun h2 => h.2 fun k hk => h2 k (Nat.lt_succ_of_lt hk)⟩
theorem zUp_all {t : ByteArray} {z : Bool} {j : Nat} (h : z = true ↔ zUp t j) (hj : j = t.size) : allz t = z := by
  subst hj
  rw [Bool.eq_iff_iff, allz_iff]
  exact h.symm
end Go.DC
namespace Go.Proofs.YtidlemedkjkmdaaDoor
open Go.RowKit Go.VB Go.DT Go.DC
end Go.Proofs.YtidlemedkjkmdaaDoor
