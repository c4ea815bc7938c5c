/- The walks over package dict: Build. -/
import Derived.Test.YtikokmafofbofaaDctW2
import Derived.Maps.OwnOps
import Derived.Maps.Views
import Derived.WalkKit
namespace Go.DI
open Go.RowKit Go.VB Go.WideMaps Go.Maps
/-- A map that holds the places of the first k words. -/
def MOk (S : List ByteArray) (k : Nat) (D : DataW Unit) : Prop := IsMap D ∧ ∀ j x, j < k → S[j]? = some x → D.atKey (.string x.data.toList) (.lit (.int .i64 0)) = .lit (.int .i64 (j : Int))
theorem MOk.start (S : List ByteArray) : MOk S 0 (.map []) := ⟨isMap_empty, fun _ _ h _ => by omega⟩
theorem MOk.step {S : List ByteArray} {k : Nat} {D : DataW Unit} {x : ByteArray} (h : MOk S k D) (ha : Asc S) (hx : S[k]? = some x) : MOk S (k + 1) (D.put (.string x.data.toList) (.lit (.int .i64 (k : Int)))) := by
  refine ⟨h.1.put _ _, fun j y hj hy => ?_⟩
  by_cases he : j = k
  · subst he
    rw [hx] at hy; cases hy
    exact atKey_put_same h.1 (by simp [WideAt.IsKeyLit]) _ _
  · have hne : (Lit.string y.data.toList) ≠ (Lit.string x.data.toList) := by
      intro e
      injection e with e
      have e2 := list_inj e
      subst e2
      exact he (ha.inj hy hx)
    rw [atKey_put_other hne]
    exact h.2 j y (by omega) hy
theorem MOk.at {S : List ByteArray} {k : Nat} {D : DataW Unit} {x : ByteArray} {c : Int} (h : MOk S k D) {j : Nat} (hj : j < k) (hx : S[j]? = some x) (hc : D.atKey (.string x.data.toList) (.lit (.int .i64 0)) = .lit (.int .i64 c)) : c = j := by
  have := h.2 j x hj hx
  rw [this] at hc
  injection hc with hc
  injection hc with _ hc
  exact hc.symm
theorem run_makeMapN {P : Program} {t k e : TypeId} (ht : P.underlying t = some (.map k e)) (n : Nat) (w : World) : (Instr.makeMap t (some (.int .i64 (n : Int)))).run P w = .ok (.map (some w.heap.size)) (w.alloc (.map #[] 0)) := by
  simp [Instr.makeMap, run_underlying ht, asInt, newObj]
  rfl
end Go.DI
namespace Go.Proofs.Ytikokmafofbofaa
open Go.RowKit Go.VB Go.VarM Go.BP Go.RL Go.DI Go.WideMaps Go.Maps
theorem Try.mlaw : Keyed Try.prog 9 := string_keyed Try.underlying9
theorem Try.mzero (w : World) : (zeroValue 3).run Try.prog w = .ok (.int .i64 0) w := by kernel_rfl
set_option maxRecDepth 100000 in
set_option maxHeartbeats 4000000 in
theorem build_any (v : Value) (l : List ByteArray) (B : Nat) (w : World) (hr : RdV Value.string w B v l) (hB : B ≤ w.heap.size) (hl : l.length ≤ 8796093022208) (hz : ∀ x ∈ l, x.size ≤ maxLen) :
    Calls Try.prog 10 #[v] w (Ret2 Value.string nI (srt l) (idx l) w) := by
  obtain ⟨A, c, _, rfl, rfl, hc1, hc2⟩ := hr.bds
  have HS := fun w' (hb : Below B w w') (h : B ≤ w'.heap.size) => Lib.hid (sort_any _ _ l B w' (Nat.le_refl _) (hr.below hb) h hl)
  have hSl := srt_len l
  have hSa := srt_asc l
  have hSz : ∀ x ∈ srt l, x.size ≤ maxLen := fun x hx => hz x (srt_mem.1 hx)
  have hIx := fun j s (h : l[j]? = some s) => idx_at h
  have hIb := fun j s (h : l[j]? = some s) => idx_back h
  have hIl := idx_len l
  generalize srt l = S at *
  generalize idx l = I at *
  have HR := Lib.hid hr; have HSA := Lib.hid hSa; have HSZ := Lib.hid hSz; have HZ := Lib.hid hz; have HIX := Lib.hid hIx; have HIB := Lib.hid hIb; have HIL := Lib.hid hIl
  clear hr hSa hSz hz hIx hIb hIl
  go_enter Try.func10, Try.ntmps10
  go_wp2_with (go_at_call 21; (with_reducible refine (HS w (Below.refl B w) hB).out.mono ?_); rintro e w1 ⟨v1, rfl, hown1, hb1⟩; obtain ⟨A1, k1, _, rfl, rfl, hk1, hk2⟩ := hown1.read.bds; have hmm := run_makeMapN (P := Try.prog) (t := 44) Try.underlying44 S.length w1)
  have hr1 := hown1.read
  have hmo := World.ownsMap_made (H := Unit) w1 Try.prog 9 (plainElem Try.prog 3)
  have hB1 := (Below.refl w1.heap.size w1).alloc (Nat.le_refl _) (.map #[] 0)
  have hsz1 := hb1.size
  clear hown1 hmm HS
  generalize w1.alloc (.map #[] 0) = w2 at hmo hB1
  have HR1 := Lib.hid hr1; clear hr1
  go_loopw [18] (fun i wr => ∃ (k : Nat) (D : DataW Unit), i = .int .i64 k ∧ k ≤ S.length ∧ wr.ownsMap Try.prog 9 (plainElem Try.prog 3) w1.heap.size k D ∧ MOk S k D ∧ Below w1.heap.size w1 wr) (fun i _ => S.length - (intOf i).toNat)
  case atStart => exact ⟨0, .map [], rfl, Nat.zero_le _, hmo, MOk.start S, hB1⟩
  case round =>
    clear hmo hB1
    obtain ⟨k, D, rfl, hk, hown, hM, hbel⟩ := hrel
    have HM := Lib.hid hM; clear hM
    by_cases hlt : k < S.length
    · have hx : S[k]? = some S[k] := List.getElem?_eq_getElem hlt
      have hxs := HSZ.out _ (List.mem_of_getElem? hx)
      obtain ⟨ad, rfl, _, hgx⟩ := (HR1.out.below hbel).at hx
      have HX := Lib.hid hx; clear hx
      generalize S[k] = x at hgx HX hxs
      have hkey := keyOf_string_mk (P := Try.prog) Try.underlying9 hxs
      clear hxs
      go_wp2_with (first
        | (at_mapUpdate; refine wpList_mapUpdate_own _ rfl _ _ _ 44 rfl 9 3 Try.mlaw Try.underlying44 _ w1.heap.size k _ rfl hown (by unfold maxLen; omega) _ _ _ rfl rfl hkey _ [] (plainElem_int Try.underlying3 (WalkArith.wf_i64 (by omega))) ?_)
        | go_in)
      intro w3 hown3 hgrow3
      have hbel3 := hbel.grown hgrow3 hbel.size (fun j hj => by cases hj; exact Nat.le_refl _)
      clear hown hgrow3 hbel hgx hkey
      go_wp2
      go_roundw
      case rel => exact ⟨k + 1, _, by go_num, hlt, hown3, HM.out.step HSA.out HX.out, hbel3⟩
      case measure => simp [intOf] <;> omega
    · have hkn : k = S.length := by omega
      subst hkn
      have hmk := run_makeV (P := Try.prog) (t := 23) (z := .int .i64 0) rfl Try.underlying23 Try.infInt l.length (by omega) (by unfold maxLen; omega) wr
      have hrow := RowV.made nI 0 3 wr w1.heap.size l.length hbel.size (by unfold maxLen; omega)
      have hmo := hown.alloc (.cells (madeCells #[.int .i64 0] l.length) 3)
      have hb2 := hbel.alloc hbel.size (.cells (madeCells #[.int .i64 0] l.length) 3)
      have hlt1 := hown.lt
      have hszr := hbel.size
      change RowV nI 3 (wr.alloc (.cells (madeCells #[.int .i64 0] l.length) 3)) w1.heap.size wr.heap.size l.length _ at hrow
      clear hown hbel
      generalize hg : wr.heap.size = g at hmk hrow hlt1 hszr
      generalize wr.alloc (.cells (madeCells #[.int .i64 0] l.length) 3) = w3 at hmk hrow hmo hb2
      clear hg
      go_wp2_with fail
      go_loopw [32] (fun i wr => ∃ (j : Nat) (L : List Nat), i = .int .i64 j ∧ j ≤ l.length ∧ wr.ownsMap Try.prog 9 (plainElem Try.prog 3) w1.heap.size S.length D ∧ RowV nI 3 wr w1.heap.size g l.length L ∧ L = I.take j ++ List.replicate (l.length - j) 0 ∧ Below w1.heap.size w1 wr) (fun i _ => l.length - (intOf i).toNat)
      case atStart => exact ⟨0, _, rfl, Nat.zero_le _, hmo, hrow, fill_start I l.length 0, hb2⟩
      case round =>
        clear hmo hrow hb2 hmk
        obtain ⟨j, L, rfl, hj, hmo, hrow, hL, hbel⟩ := hrel
        have HL := Lib.hid hL; clear hL
        by_cases hjl : j < l.length
        · have hx : l[j]? = some l[j] := List.getElem?_eq_getElem hjl
          have hxs := HZ.out _ (List.mem_of_getElem? hx)
          have hi := HIX.out j _ hx
          have hi2 := HIB.out j _ hx
          obtain ⟨ad, rfl, _, hgx⟩ := (HR.out.below (hb1.trans (hbel.mono hsz1) |>.mono hB)).at hx
          clear hx
          generalize l[j] = x at hgx hi hi2 hxs
          have hkey := keyOf_string_mk (P := Try.prog) Try.underlying9 hxs
          have hps : plc x S < S.length := (List.getElem?_eq_some_iff.1 hi2).1
          have hat2 := fun c hc => HM.out.at (c := c) hps hi2 hc
          have hst := hrow.store j (plc x S)
          have hgr := hrow.grown j (plc x S)
          have hfr := hrow.frozen j
          have hlL : L.length = l.length := by rw [HL.out]; exact fill_len HIL.out hj
          have hLj : L[j]? = some (L[j]'(by omega)) := List.getElem?_eq_getElem _
          have hcl := hrow.cell j _ hLj
          generalize L[j]'_ = old at hcl
          have hcl' : wr.cell? ⟨g, j, none⟩ = some (.int .i64 (old : Int)) := hcl
          have hse := fill_set (z := 0) HIL.out hjl hi
          have hne : some w1.heap.size ≠ some g := fun e => by cases e; omega
          generalize plc x S = p at *
          have HSE := Lib.hid hse; have HAT := Lib.hid hat2
          clear hcl hLj hxs hi hi2 hse hat2
          have hmo2 := hmo.kept hgr hne
          have hbel2 := hbel.setCell (p := ⟨g, j, none⟩) hszr (nI p)
          have hst' : RowV nI 3 (wr.setCell ⟨g, j, none⟩ (.int .i64 (p : Int))) w1.heap.size g l.length (L.set j p) := hst
          have hmo2' : (wr.setCell ⟨g, j, none⟩ (.int .i64 (p : Int))).ownsMap Try.prog 9 (plainElem Try.prog 3) w1.heap.size S.length D := hmo2
          have hbel2' : Below w1.heap.size w1 (wr.setCell ⟨g, j, none⟩ (.int .i64 (p : Int))) := hbel2
          have HST := Lib.hid hst'; have HMO := Lib.hid hmo2'; have HBE := Lib.hid hbel2'
          clear hst hmo2 hbel2 hst' hmo2' hbel2' hgr
          go_wp2_with (first
            | (at_lookup; refine wpList_lookup_own_int _ rfl _ _ 44 rfl 9 3 .i64 Try.mlaw Try.underlying44 Try.underlying3 (Try.mzero _) w1.heap.size S.length _ rfl hmo _ _ rfl hkey ?_; intro c hat hwc; obtain rfl := HAT.out c hat)
            | go_in)
          go_roundw
          case rel => exact ⟨j + 1, L.set j p, by go_num, hjl, HMO.out, HST.out, by rw [HL.out]; exact HSE.out, HBE.out⟩
          case measure => simp [intOf] <;> omega
        · have hjn : j = l.length := by omega
          have hfin : L = I := by rw [HL.out, hjn]; exact fill_end HIL.out
          have HF := Lib.hid hfin; have HIL2 := Lib.hid (HIL.out)
          clear hjn hfin
          go_wp2_with fail
          go_ret2
          refine Ret2.mk rfl ((HR1.out.below hbel).more hbel.size) ?_ (hb1.trans (hbel.mono hsz1))
          have h := hrow.read
          rw [HF.out, HIL.out] at h
          exact h
end Go.Proofs.Ytikokmafofbofaa
