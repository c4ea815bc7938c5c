/- The statements of layer 12: what Encode finds in one contract; RoundTrip. -/
import Derived.Test.YtbolbbngncnecaaCkK
import Derived.Test.YtbolbbngncnecaaValA
import Derived.BigQuiet
namespace Go.CK
open Go.RowKit Go.VB Go.VS Go.VL Go.Proofs.Ytbolbbngncnecaa
/-- What Encode returns beside its code. -/
def encS (typ : Int) (nu : Bool) (l : List Vl) : ByteArray := if encE typ nu l = 0 then str (bestB typ l) else ⟨#[]⟩
theorem encS_bad {typ : Int} {nu : Bool} {l : List Vl} (h : encE typ nu l ≠ 0) : encS typ nu l = ⟨#[]⟩ := if_neg h
theorem encS_ok {typ : Int} {nu : Bool} {l : List Vl} (h : encE typ nu l = 0) : encS typ nu l = str (bestB typ l) := if_pos h
theorem okT_pick (t : Int) : okT (1 + pickN t 5) = true := by
  obtain ⟨h1, h2⟩ := pickN_bd t (n := 5) (by omega)
  exact decide_eq_true (by omega)
theorem pick_ty (t : Int) : 1 ≤ 1 + pickN t 5 ∧ 1 + pickN t 5 ≤ 5 := by
  obtain ⟨h1, h2⟩ := pickN_bd t (n := 5) (by omega)
  omega
theorem best_nat (typ : Int) (l : List Vl) : ∃ k : Nat, 1 ≤ k ∧ k ≤ 4 ∧ uses typ k = true ∧ bestB typ l = buildB typ k l := by
  obtain ⟨k, h1, h2, h3, h4, _⟩ := best_spec typ l
  exact ⟨k, h1, h2, h3, h4⟩
end Go.CK
namespace Go.Proofs.Ytbolbbngncnecaa
open Go.RowKit Go.VB Go.VarM Go.BP Go.RL Go.VS Go.VL Go.DI Go.CK Go.NU Go.KV Go.ChangeShapes Go.WideShapes Go.ChangeAt
open Go.ChangeMaps (open_string)
set_option linter.constructorNameAsVariable false
theorem cenc_any (nm : ByteArray) (ty sc : Int) (nu : Bool) (v : Value) (l : List Vl) (W : World) (hr : RdL W W.heap.size v l) (hb : ∀ x ∈ l, -9223372036854775808 ≤ x.n ∧ x.n ≤ 9223372036854775807) :
    Calls Try.prog 9 #[(.agg #[.string nm, .int .i64 ty, .int .i64 sc, .bool nu]), v] W (RetB (.tuple #[.string (encS ty nu l), .int .i64 (encE ty nu l : Nat)]) W) := by
  cases hT : okT ty with
  | false =>
    have he := encE_type (nu := nu) (l := l) hT
    rw [encS_bad (by rw [he]; decide), he]
    exact enc_type nm ty sc nu v W hT
  | true =>
    by_cases hl : 4096 < l.length
    · have he := encE_full (nu := nu) hT hl
      rw [encS_bad (by rw [he]; decide), he]
      exact enc_full nm ty sc nu v l W hT hr hl
    · have hl' : l.length ≤ 4096 := by omega
      have he := encE_first (nu := nu) hT hl'
      by_cases h0 : firstE ty nu l = 0
      · rw [encS_ok (by rw [he, h0]), he, h0]
        exact enc_good nm ty sc nu v l W hT hr hl' h0 hb
      · rw [encS_bad (by rw [he]; exact h0), he]
        exact enc_bad nm ty sc nu v l W hT hr hl' _ rfl h0
end Go.Proofs.Ytbolbbngncnecaa
