/- The statements' own makers of layer 12: columns, valid values, lists of values compared, the example. -/
import Derived.Test.YtnmlajmaffiigaaGreatDoorCkR1
import Derived.Test.YtnmlajmaffiigaaGreatDoorCkW8
import Derived.Test.YtnmlajmaffiigaaGreatDoorGk
import Derived.Test.YtnmlajmaffiigaaGreatDoorBtO
import Derived.BigQuiet
namespace Go.CK
open Go.RowKit Go.VB Go.VS Go.VL Go.KV
end Go.CK
namespace Go.Proofs.YtnmlajmaffiigaaGreatDoor
open Go.RowKit Go.VB Go.VarM Go.BP Go.RL Go.VS Go.VL Go.DI Go.CK Go.NU Go.KV
end Go.Proofs.YtnmlajmaffiigaaGreatDoor

namespace Go.CK
open Go.RowKit Go.VB Go.VS Go.VL Go.Proofs.YtnmlajmaffiigaaGreatDoor
/-- What Encode returns beside its code. -/
def encS (typ : Int) (nu : Bool) (l : List Vl) : ByteArray := if encE typ nu l = 0 then str (bestB typ l) else ⟨#[]⟩
theorem encS_bad {typ : Int} {nu : Bool} {l : List Vl} (h : encE typ nu l ≠ 0) : encS typ nu l = ⟨#[]⟩ := if_neg h
theorem encS_ok {typ : Int} {nu : Bool} {l : List Vl} (h : encE typ nu l = 0) : encS typ nu l = str (bestB typ l) := if_pos h
end Go.CK
namespace Go.Proofs.YtnmlajmaffiigaaGreatDoor
open Go.RowKit Go.VB Go.VarM Go.BP Go.RL Go.VS Go.VL Go.DI Go.CK Go.NU Go.KV Go.ChangeShapes Go.WideShapes Go.ChangeAt
open Go.ChangeMaps (open_string)
set_option linter.constructorNameAsVariable false
theorem cenc_any (nm : ByteArray) (ty sc : Int) (nu : Bool) (v : Value) (l : List Vl) (W : World) (hr : RdL W W.heap.size v l) (hb : ∀ x ∈ l, -9223372036854775808 ≤ x.n ∧ x.n ≤ 9223372036854775807) :
    Calls Tryz.prog 81 #[(.agg #[.string nm, .int .i64 ty, .int .i64 sc, .bool nu]), v] W (RetB (.tuple #[.string (encS ty nu l), .int .i64 (encE ty nu l : Nat)]) W) := by
  cases hT : okT ty with
  | false =>
    have he := encE_type (nu := nu) (l := l) hT
    rw [encS_bad (by rw [he]; decide), he]
    exact enc_type nm ty sc nu v W hT
  | true =>
    by_cases hl : 4096 < l.length
    · have he := encE_full (nu := nu) hT hl
      rw [encS_bad (by rw [he]; decide), he]
      exact enc_full nm ty sc nu v l W hT hr hl
    · have hl' : l.length ≤ 4096 := by omega
      have he := encE_first (nu := nu) hT hl'
      by_cases h0 : firstE ty nu l = 0
      · rw [encS_ok (by rw [he, h0]), he, h0]
        exact enc_good nm ty sc nu v l W hT hr hl' h0 hb
      · rw [encS_bad (by rw [he]; exact h0), he]
        exact enc_bad nm ty sc nu v l W hT hr hl' _ rfl h0
end Go.Proofs.YtnmlajmaffiigaaGreatDoor

namespace Go.Proofs.YtnmlajmaffiigaaGreatDoor
open Go.RowKit Go.VB Go.VarM Go.BP Go.RL Go.VS Go.VL Go.DI Go.CK Go.NU Go.KV Go.ChangeShapes Go.WideShapes Go.ChangeAt
open Go.ChangeMaps (open_string)
set_option linter.constructorNameAsVariable false
end Go.Proofs.YtnmlajmaffiigaaGreatDoor
