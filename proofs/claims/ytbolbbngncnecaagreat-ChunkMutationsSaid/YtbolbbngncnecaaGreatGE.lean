/- Several texts in one: DctW5 DctW6 DctW7 DctW8 DctW9. -/
import Derived.Test.YtbolbbngncnecaaGreatGD
/- The walks over package dict: one word, the words, the look-up, Decode. -/
namespace Go.VB
open Go.RowKit
/-- It returns a list of its own, an index and a code; what was there is as it was. -/
def RetV3 {α : Type} (f : α → Value) (e : TypeId) (l : List α) (q : Int) (c : Nat) (w : World) : Ending → World → Prop := fun en w' =>
  ∃ v, en = .returned (.tuple #[v, .int .i64 q, .int .i64 (c : Int)]) ∧ OwnV f e w' w.heap.size v l ∧ Below w.heap.size w w'
theorem RetV3.mk {α : Type} {f : α → Value} {e : TypeId} {l : List α} {q : Int} {c : Nat} {w w' : World} {x v : Value} (hx : x = .tuple #[v, .int .i64 q, .int .i64 (c : Int)]) (ho : OwnV f e w' w.heap.size v l) (hb : Below w.heap.size w w') : RetV3 f e l q c w (.returned x) w' := ⟨v, by rw [hx], ho, hb⟩
theorem RowV.other {α β : Type} {f : α → Value} {h : β → Value} {e e' : TypeId} {w : World} {base base' g g' c c' : Nat} {l : List α} {m : List β} (h1 : RowV f e w base g c l) (h2 : RowV h e' w base' g' c' m) (hne : g ≠ g') (j : Nat) (x : β) :
    RowV f e (w.setCell ⟨g', j, none⟩ (h x)) base g c l :=
  World.ownsRow.kept h1 (h2.grown j x) (.inr (by simp only [Value.ownBlock]; exact fun e => hne (Option.some.inj e)))
end Go.VB
namespace Go.DI
open Go.RowKit Go.VB
theorem count_off {U : List Bool} {i : Nat} (h : U[i]? = some false) : (U.set i true).count false + 1 = U.count false := by
  obtain ⟨hi, he⟩ := List.getElem?_eq_some_iff.1 h
  have hm : U[i] ∈ U := List.getElem_mem hi
  have hp : 0 < U.count false := List.count_pos_iff.2 (by rw [← he]; exact hm)
  rw [List.count_set hi]
  simp [he]
  omega
/-- Which words are used by the first j indices. -/
def UOk (n : Nat) (u : List Nat) (j : Nat) (U : List Bool) : Prop := U.length = n ∧ ∀ m, m < n → U[m]? = some (decide (m ∈ u.take j))
theorem UOk.start (n : Nat) (u : List Nat) : UOk n u 0 (List.replicate n false) := ⟨by simp, fun m hm => by simp [hm]⟩
theorem UOk.step {n : Nat} {u : List Nat} {j x : Nat} {U : List Bool} (h : UOk n u j U) (hx : u[j]? = some x) (hn : x < n) : UOk n u (j + 1) (U.set x true) := by
  refine ⟨by rw [List.length_set]; exact h.1, fun m hm => ?_⟩
  rw [take_snoc hx]
  by_cases he : m = x
  · subst he
    rw [List.getElem?_set_self (by rw [h.1]; exact hm)]; simp
  · rw [List.getElem?_set_ne (fun e => he e.symm), h.2 m hm]; simp [he]
theorem UOk.same {n : Nat} {u : List Nat} {j x : Nat} {U : List Bool} (h : UOk n u j U) (hx : u[j]? = some x) (hn : x < n) (hu : U[x]? = some true) : UOk n u (j + 1) U := by
  have h1 := h.step hx hn
  have he : U.set x true = U := by
    obtain ⟨hi, e⟩ := List.getElem?_eq_some_iff.1 hu
    rw [← e, List.set_getElem_self]
  rwa [he] at h1
theorem UOk.none {n : Nat} {u : List Nat} {j : Nat} {U : List Bool} (h : UOk n u j U) (hj : u.length ≤ j) (h0 : U.count false = 0) : ∀ m, m < n → m ∈ u := by
  intro m hm
  have h1 := h.2 m hm
  rw [List.take_of_length_le hj] at h1
  by_cases hmu : m ∈ u
  · exact hmu
  · rw [decide_eq_false hmu] at h1
    have := List.count_pos_iff.2 (List.mem_of_getElem? h1)
    omega
theorem UOk.some {n : Nat} {u : List Nat} {j : Nat} {U : List Bool} (h : UOk n u j U) (hj : u.length ≤ j) (h0 : 0 < U.count false) : ∃ m, m < n ∧ m ∉ u := by
  obtain ⟨m, hm, he⟩ := List.mem_iff_getElem.1 (List.count_pos_iff.1 h0)
  have hm' : m < n := by rw [← h.1]; exact hm
  refine ⟨m, hm', fun hmu => ?_⟩
  have h1 := h.2 m hm'
  rw [List.take_of_length_le hj, decide_eq_true hmu, List.getElem?_eq_getElem hm, he] at h1
  cases h1
end Go.DI
namespace Go.Proofs.YtbolbbngncnecaaGreat
open Go.RowKit Go.VB Go.VarM Go.BP Go.RL Go.DI
theorem le_true {x y : ByteArray} (h : lts y x = false) : (Go.Op.bytesLess x.toList y.toList || x.toList == y.toList) = true := by
  by_cases e : x = y
  · rw [text_eq e, Bool.or_true]
  · rw [less_at (lts_not h (fun e' => e e'.symm)), Bool.true_or]
theorem le_false {x y : ByteArray} (h : lts y x = true) : (Go.Op.bytesLess x.toList y.toList || x.toList == y.toList) = false := by
  rw [less_at (lts_asym h), text_ne (fun e => lts_ne h e.symm)]; rfl
theorem Tryz.infBl : (Tryz.prog.info? 4).map (fun i => (i.zero, i.size, i.bytes)) = some (some (.bool false), 1, 1) := by kernel_rfl
section
variable (s : ByteArray) (p : Int) (w : World) (hs : s.size ≤ 140737488351232)
include hs
set_option maxHeartbeats 400000 in
theorem getword_e {a : Nat} {b : Int} {c : Nat} (hg : getR s p = (a, b, c)) (hc : c ≠ 0) :
    Calls Tryz.prog 124 #[.string s, .int .i64 p] w (Ret (.tuple #[.string ⟨#[]⟩, .int .i64 0, .int .i64 (c : Int)]) w) := by
  have HG := Lib.hid (vget_is s p w (by unfold maxLen; omega) hg)
  have hd : ((c : Int) != 0) = true := by simp; omega
  clear hg hc
  go_enter Tryz.func124, Tryz.ntmps124
  go_wp2_with (go_at_call 82; (with_reducible refine HG.out.mono ?_); rintro e w' ⟨rfl, rfl⟩)
  go_ret3
  exact Ret.mk rfl
set_option maxHeartbeats 400000 in
theorem getword_short {a b : Nat} (hg : getR s p = (a, (b : Int), 0)) (hb : b ≤ s.size) (h : s.size < b + a) :
    Calls Tryz.prog 124 #[.string s, .int .i64 p] w (Ret (.tuple #[.string ⟨#[]⟩, .int .i64 0, .int .i64 10]) w) := by
  have HG := Lib.hid (vget_ok s p w (by unfold maxLen; omega) hg)
  obtain ⟨m, hm⟩ : ∃ m : Nat, (s.size : Int) - (b : Int) = m := ⟨s.size - b, by omega⟩
  have hma : (m : Int) < (a : Int) := by omega
  have hmb : (m : Int) ≤ 140737488351232 := by omega
  clear hg
  go_enter Tryz.func124, Tryz.ntmps124
  go_wp2_with (go_at_call 82; (with_reducible refine HG.out.mono ?_); rintro e w' ⟨rfl, rfl⟩)
  go_ret3
  exact Ret.mk rfl
set_option maxHeartbeats 400000 in
theorem getword_ok {a b : Nat} (hg : getR s p = (a, (b : Int), 0)) (h : b + a ≤ s.size) :
    Calls Tryz.prog 124 #[.string s, .int .i64 p] w (Ret (.tuple #[.string (s.extract b (b + a)), .int .i64 ((b + a : Nat) : Int), .int .i64 0]) w) := by
  have HG := Lib.hid (vget_ok s p w (by unfold maxLen; omega) hg)
  obtain ⟨m, hm⟩ : ∃ m : Nat, (s.size : Int) - (b : Int) = m := ⟨s.size - b, by omega⟩
  have hma : (a : Int) ≤ (m : Int) := by omega
  have hmb : (m : Int) ≤ 140737488351232 := by omega
  obtain ⟨n, hn⟩ : ∃ n : Nat, b + a = n := ⟨_, rfl⟩
  have hn' : (b : Int) + (a : Int) = (n : Int) := by omega
  have hnb : b ≤ n := by omega
  have hns : n ≤ s.size := by omega
  rw [hn]
  clear hg hn h
  go_enter Tryz.func124, Tryz.ntmps124
  go_wp2_with (go_at_call 82; (with_reducible refine HG.out.mono ?_); rintro e w' ⟨rfl, rfl⟩)
  go_ret3
  exact Ret.mk rfl
theorem getword_any {x : ByteArray} {q : Int} {c : Nat} (hg : getW s p = (x, q, c)) :
    Calls Tryz.prog 124 #[.string s, .int .i64 p] w (Ret (.tuple #[.string x, .int .i64 q, .int .i64 (c : Int)]) w) := by
  obtain ⟨a, b, c', h⟩ : ∃ a b c', getR s p = (a, b, c') := ⟨_, _, _, rfl⟩
  by_cases hc : c' = 0
  · subst hc
    obtain ⟨k, m, h1, h2, h3, h4, h5, h6⟩ := getR_zero h
    obtain ⟨b, rfl⟩ : ∃ b' : Nat, b = b' := ⟨k + m, by omega⟩
    by_cases hb : b + a ≤ s.size
    · rw [getW_ok h hb] at hg; cases hg
      exact getword_ok s p w hs h hb
    · rw [getW_short h (by omega)] at hg; cases hg
      exact getword_short s p w hs h (by omega) (by omega)
  · rw [getW_e h hc] at hg; cases hg
    exact getword_e s p w hs h hc
end
set_option maxRecDepth 100000 in
set_option maxHeartbeats 4000000 in
theorem getwords_any (s : ByteArray) (k p : Nat) (w : World) (hs : s.size ≤ 140737488351232) (hk : k ≤ 4096) (hp : p ≤ s.size) {l : List ByteArray} {q : Int} {c : Nat} (hd : dws s k (p : Nat) [] = (l, q, c)) :
    Calls Tryz.prog 109 #[.string s, .int .i64 (p : Int), .int .i64 (k : Int)] w (RetV3 Value.string 9 l q c w) := by
  have hmk := run_makeV0 (P := Tryz.prog) (t := 73) (z := .string ⟨#[]⟩) rfl Tryz.underlying73 Tryz.infStr k (by omega) (by unfold maxLen; omega) w
  have HD := Lib.hid hd; clear hd
  go_enter Tryz.func109, Tryz.ntmps109
  go_wp2_with fail
  clear hmk
  go_loopw [1, 9, 16] (fun a ws i wr => ∃ (p j : Nat) (ls : List ByteArray), a = .int .i64 p ∧ i = .int .i64 j ∧ j ≤ k ∧ p ≤ s.size ∧ OwnV Value.string 9 wr w.heap.size ws ls ∧ ls.length = j ∧ dws s (k - j) (p : Nat) ls = (l, q, c) ∧ Below w.heap.size w wr) (fun _ _ i _ => k - (intOf i).toNat)
  case atStart => exact ⟨p, 0, [], rfl, rfl, Nat.zero_le _, hp, OwnV.made0 _ _ _ _ _ _ (Nat.le_refl _) (by unfold maxLen; omega), rfl, HD.out, (Below.refl _ _).alloc (Nat.le_refl _) _⟩
  case round =>
    clear hp HD
    obtain ⟨p, j, ls, rfl, rfl, hj, hp, hown, hlen, hd, hbel⟩ := hrel
    have HL := Lib.hid hlen
    have hl4 : ls.length ≤ 4096 := by omega
    clear hlen
    obtain ⟨A, cc, _, rfl, rfl, hc1, hc2⟩ := hown.read.bds
    have hrd := hown.read
    have hszr := hbel.size
    by_cases hlt : j < k
    · rw [show k - j = (k - (j + 1)) + 1 from by omega] at hd
      obtain ⟨x, q1, c1, hg⟩ : ∃ x q c, getW s (p : Nat) = (x, q, c) := ⟨_, _, _, rfl⟩
      by_cases hc0 : c1 = 0
      · subst hc0
        obtain ⟨k1, rfl, h1, h2, _, _⟩ := getW_zero hg
        have HG : Hid (∀ w, Calls Tryz.prog 124 #[.string s, .int .i64 (p : Int)] w (Ret (.tuple #[.string x, .int .i64 (k1 : Int), .int .i64 0]) w)) := Lib.hid (fun w => getword_any s p w hs hg)
        rcases Nat.eq_zero_or_pos ls.length with h0 | h0
        · rw [dws_go hg (fun y hy => by rw [List.eq_nil_of_length_eq_zero h0] at hy; simp at hy)] at hd
          have HD := Lib.hid hd
          have hl0 : ls.length ≤ 0 := by omega
          clear hd hg hrd h0
          go_wp2_with (first
            | (go_at_call 124; (with_reducible refine (HG.out _).mono ?_); rintro e w' ⟨rfl, rfl⟩)
            | (at_builtin; refine wpl_appV (f := Value.string) (fun _ => rfl) (.string ⟨#[]⟩) rfl rfl _ _ 73 rfl w.heap.size 9 16 Tryz.underlying73 Tryz.infStr (.slice A ls.length cc) ls rfl (hown.alloc _) (wr.heap.size + 1) _ [x] rfl (RdV.one _ _ _ _ _ (by decide) (by decide)) (by unfold maxLen; simp; omega) (by simp; omega) (by simp; omega) ?_; intro v' w' hown' hb' _))
          go_roundw
          case rel => exact ⟨k1, j + 1, _, rfl, by go_num, hlt, h2, hown', by rw [List.length_append, HL.out]; rfl, HD.out, (hbel.alloc hszr _).trans hb'⟩
          case measure => simp [intOf] <;> omega
        · obtain ⟨y, hy⟩ : ∃ y, ls[ls.length - 1]? = some y := ⟨_, List.getElem?_eq_getElem (by omega)⟩
          obtain ⟨ad, rfl, _, hgx⟩ := hrd.at hy
          rw [← List.getLast?_eq_getElem?] at hy
          clear hrd
          obtain ⟨r, hr⟩ : ∃ r : Nat, (ls.length : Int) - 1 = r := ⟨ls.length - 1, by omega⟩
          have hrl : ls.length - 1 = r := by omega
          rw [hrl] at hgx
          have hrn : r < ls.length := by omega
          clear hrl
          cases hyx : lts y x with
          | true =>
            rw [dws_go hg (fun z hz => by rw [hy] at hz; cases hz; exact hyx)] at hd
            have HD := Lib.hid hd
            have hd1 := le_false hyx
            have HOWN := Lib.hid hown
            clear hd hg hy hyx
            go_wp2_with (first
              | (go_at_call 124; (with_reducible refine (HG.out _).mono ?_); rintro e w' ⟨rfl, rfl⟩)
              | (at_builtin; refine wpl_appV (f := Value.string) (fun _ => rfl) (.string ⟨#[]⟩) rfl rfl _ _ 73 rfl w.heap.size 9 16 Tryz.underlying73 Tryz.infStr (.slice (some ad) ls.length cc) ls rfl (hown.alloc _) (wr.heap.size + 1) _ [x] rfl (RdV.one _ _ _ _ _ (by decide) (by decide)) (by unfold maxLen; simp; omega) (by simp; omega) (by simp; omega) ?_; intro v' w' hown' hb' _))
            go_roundw
            case rel => exact ⟨k1, j + 1, _, rfl, by go_num, hlt, h2, hown', by rw [List.length_append, HL.out]; rfl, HD.out, (hbel.alloc hszr _).trans hb'⟩
            case measure => simp [intOf] <;> omega
          | false =>
            rw [dws_f hg hy hyx] at hd
            have HD := Lib.hid hd
            have hd1 := le_true hyx
            clear hd hg hy hyx
            go_wp2_with (go_at_call 124; (with_reducible refine (HG.out _).mono ?_); rintro e w' ⟨rfl, rfl⟩)
            go_ret3
            have h := HD.out
            cases h
            exact RetV3.mk rfl (OwnV.nil _ _ _ _) hbel
      · rw [dws_e hg hc0] at hd
        have HG : Hid (∀ w, Calls Tryz.prog 124 #[.string s, .int .i64 (p : Int)] w (Ret (.tuple #[.string x, .int .i64 q1, .int .i64 (c1 : Int)]) w)) := Lib.hid (fun w => getword_any s p w hs hg)
        have HD := Lib.hid hd
        have hdc : ((c1 : Int) != 0) = true := by simp; omega
        clear hd hg hrd hc0
        go_wp2_with (go_at_call 124; (with_reducible refine (HG.out _).mono ?_); rintro e w' ⟨rfl, rfl⟩)
        go_ret3
        have h := HD.out
        cases h
        exact RetV3.mk rfl (OwnV.nil _ _ _ _) hbel
    · rw [show k - j = 0 from by omega, dws_done] at hd
      have HD := Lib.hid hd
      have HOWN := Lib.hid hown
      clear hd hrd hown
      go_wp2
      go_ret3
      have h := HD.out
      cases h
      exact RetV3.mk rfl HOWN.out hbel
end Go.Proofs.YtbolbbngncnecaaGreat

/- The walks over package dict: the look-up of the indices, Decode. -/
namespace Go.Proofs.YtbolbbngncnecaaGreat
open Go.RowKit Go.VB Go.VarM Go.BP Go.RL Go.DI
set_option maxRecDepth 100000 in
set_option maxHeartbeats 4000000 in
theorem lookup_any (v1 v2 : Value) (ws : List ByteArray) (u : List Nat) (w : World) (hr1 : RdV Value.string w w.heap.size v1 ws) (hr2 : RdN .u64 w w.heap.size v2 u) (hws : ws.length ≤ 4096) (hu : u.length ≤ 4096) (hu64 : ∀ x ∈ u, x < 2 ^ 64) {l : List ByteArray} {c : Nat} (hd : lkR ws u = (l, c)) :
    Calls Tryz.prog 112 #[v1, v2] w (RetVE Value.string 9 l c w) := by
  have hrU := RdN.toU hr2
  clear hr2
  obtain ⟨A1, c1, _, rfl, rfl, hc1, hc2⟩ := hr1.bds
  obtain ⟨A2, c2, _, rfl, rfl, hd1, hd2⟩ := hrU.bds
  have hmk1 := run_makeV (P := Tryz.prog) (t := 73) (z := .string ⟨#[]⟩) rfl Tryz.underlying73 Tryz.infStr u.length (by omega) (by unfold maxLen; omega) w
  have hrow1 := RowV.made Value.string ⟨#[]⟩ 9 w w.heap.size u.length (Nat.le_refl _) (by unfold maxLen; omega)
  have hb1 := (Below.refl w.heap.size w).alloc (Nat.le_refl _) (.cells (madeCells #[.string ⟨#[]⟩] u.length) 9)
  have hsz1 : w.heap.size < (w.alloc (.cells (madeCells #[.string ⟨#[]⟩] u.length) 9)).heap.size := by simp
  generalize w.alloc (.cells (madeCells #[.string ⟨#[]⟩] u.length) 9) = w1 at hmk1 hrow1 hb1 hsz1
  have hmk2 := run_makeV (P := Tryz.prog) (t := 45) (z := .bool false) rfl Tryz.underlying45 Tryz.infBl ws.length (by omega) (by unfold maxLen; omega) w1
  have hrow2 := RowV.made Value.bool false 4 w1 w.heap.size ws.length (by omega) (by unfold maxLen; omega)
  have hrow1' := hrow1.alloc (.cells (madeCells #[.bool false] ws.length) 4)
  have hb2 := hb1.alloc (by omega) (.cells (madeCells #[.bool false] ws.length) 4)
  generalize hg2 : w1.heap.size = g2 at hmk2 hrow2 hsz1
  have hne : w.heap.size ≠ g2 := by omega
  generalize w1.alloc (.cells (madeCells #[.bool false] ws.length) 4) = w2 at hmk2 hrow2 hrow1' hb2
  clear hg2 hrow1 hb1
  have HR1 := Lib.hid hr1; have HRU := Lib.hid hrU; have HU := Lib.hid hu64; have HD := Lib.hid hd
  clear hr1 hrU hu64 hd
  go_enter Tryz.func112, Tryz.ntmps112
  go_wp2_with fail
  clear hmk1 hmk2
  go_loopw [8, 21] (fun n i wr => ∃ (j m : Nat) (L : List ByteArray) (U : List Bool), n = .int .i64 m ∧ i = .int .i64 j ∧ j ≤ u.length ∧ RowV Value.string 9 wr w.heap.size w.heap.size u.length L ∧ RowV Value.bool 4 wr w.heap.size g2 ws.length U ∧ L = (u.map fun i => ws.getD i ⟨#[]⟩).take j ++ List.replicate (u.length - j) ⟨#[]⟩ ∧ UOk ws.length u j U ∧ m = U.count false ∧ (∀ i ∈ u.take j, i < ws.length) ∧ Below w.heap.size w wr) (fun _ i _ => u.length - (intOf i).toNat)
  case atStart => exact ⟨0, ws.length, _, _, rfl, rfl, Nat.zero_le _, hrow1', hrow2, fill_start _ u.length _, UOk.start _ _, by rw [List.count_replicate_self], by simp, hb2⟩
  case round =>
    clear hrow1' hrow2 hb2
    obtain ⟨j, m, L, U, rfl, rfl, hj, hrow1, hrow2, hL, hU, hm, hlt, hbel⟩ := hrel
    have HL := Lib.hid hL; have HM := Lib.hid hm; have HLT := Lib.hid hlt; have HUO := Lib.hid hU
    have hmn : m ≤ ws.length := by rw [hm, ← hU.1]; exact List.count_le_length
    clear hL hm hlt hU
    by_cases hjl : j < u.length
    · have hx : u[j]? = some u[j] := List.getElem?_eq_getElem hjl
      obtain ⟨ad, rfl, _, hgx0⟩ := (HRU.out.below hbel).at hx
      have hx64 := HU.out _ (List.mem_of_getElem? hx)
      have hxm := List.mem_of_getElem? hx
      have HX := Lib.hid hx; have HXM := Lib.hid hxm
      clear hx hxm
      generalize u[j] = x at hgx0 hx64 HX HXM
      have hgx : wr.cell? (ad.add j) = some (.int .u64 (x : Int)) := hgx0
      clear hgx0
      by_cases hxl : x < ws.length
      · have hy : ws[x]? = some ws[x] := List.getElem?_eq_getElem hxl
        obtain ⟨bd, rfl, _, hgy⟩ := (HR1.out.below hbel).at hy
        have hfl := fill_set (l := u.map fun i => ws.getD i ⟨#[]⟩) (n := u.length) (j := j) (x := ws[x]) (z := ⟨#[]⟩) (List.length_map _) hjl (by rw [List.getElem?_map, HX.out, Option.map_some, List.getD_eq_getElem?_getD, hy]; rfl)
        have HFL := Lib.hid hfl
        clear hy hfl
        generalize ws[x] = y at hgy HFL
        have hlL : L.length = u.length := by rw [HL.out]; exact fill_len (List.length_map _) hj
        have hLj : L[j]? = some (L[j]'(by omega)) := List.getElem?_eq_getElem _
        have hcl := hrow1.cell j _ hLj
        have hf1 := hrow1.frozen j
        generalize L[j]'_ = old at hcl
        have hst1 := hrow1.store j y
        have hst2 := hrow2.other hrow1 (fun e => hne e.symm) j y
        have hbel1 := hbel.setCell (p := ⟨w.heap.size, j, none⟩) (Nat.le_refl _) (.string y)
        have hUx : U[x]? = some (U[x]'(by rw [HUO.out.1]; exact hxl)) := List.getElem?_eq_getElem _
        have hc2 : (wr.setCell ⟨w.heap.size, j, none⟩ (.string y)).cell? ⟨g2, x, none⟩ = _ := hst2.cell x _ hUx
        have hf2 : (wr.setCell ⟨w.heap.size, j, none⟩ (.string y)).frozen? ⟨g2, x, none⟩ = false := hst2.frozen x
        have hc2' := hrow2.cell x _ hUx
        have hf2' := hrow2.frozen x
        have hltx : ∀ i ∈ u.take (j + 1), i < ws.length := by
          intro i hi
          rw [Go.DI.take_snoc HX.out] at hi
          rcases List.mem_append.1 hi with hi | hi
          · exact HLT.out i hi
          · rw [List.mem_singleton.1 hi]; exact hxl
        have HLTX := Lib.hid hltx
        clear hLj hlL hltx
        generalize hux : U[x]'_ = ux at hc2 hUx hc2'
        clear hux
        cases ux with
        | true =>
          have HUS := Lib.hid (HUO.out.same HX.out hxl hUx)
          have HST1 := Lib.hid hst1; have HST2 := Lib.hid hst2; have HB := Lib.hid hbel1
          clear hUx hst1 hst2 hbel1
          go_wp2_with fail
          go_roundw
          case rel => exact ⟨j + 1, m, _, U, rfl, by go_num, hjl, HST1.out, HST2.out, by rw [HL.out]; exact HFL.out, HUS.out, HM.out, HLTX.out, HB.out⟩
          case measure => simp [intOf] <;> omega
        | false =>
          have HUS := Lib.hid (HUO.out.step HX.out hxl)
          have hcn := count_off hUx
          have hm1 : 1 ≤ m := by rw [HM.out]; omega
          have HCN := Lib.hid hcn
          have HST1 := Lib.hid (hst1.other hst2 hne x true); have HST2 := Lib.hid (hst2.store x true); have HB := Lib.hid (hbel1.setCell (p := ⟨g2, x, none⟩) (by simp only; omega) (.bool true))
          clear hUx hst1 hst2 hbel1 hcn
          go_wp2_with fail
          go_roundw
          case rel => exact ⟨j + 1, m - 1, _, _, vint (by omega), by go_num, hjl, HST1.out, HST2.out, by rw [HL.out]; exact HFL.out, HUS.out, by have := HCN.out; have := HM.out; omega, HLTX.out, HB.out⟩
          case measure => simp [intOf] <;> omega
      · have h := HD.out
        rw [lkR_big HXM.out hxl] at h
        cases h
        have hxi : (ws.length : Int) ≤ (x : Int) := by omega
        go_wp2_with fail
        go_ret2
        exact RetVE.mk rfl (OwnV.nil _ _ _ _) hbel
    · have hall : ∀ i ∈ u, i < ws.length := by
        have := HLT.out
        rwa [List.take_of_length_le (by omega)] at this
      rcases Nat.eq_zero_or_pos m with h0 | h0
      · have hn := HUO.out.none (by omega) (by rw [← HM.out]; exact h0)
        have h := HD.out
        rw [lkR_ok hall hn] at h
        have hjn : j = u.length := by omega
        have hfin : L = u.map fun i => ws.getD i ⟨#[]⟩ := by rw [HL.out, hjn]; exact fill_end (List.length_map _)
        have HF := Lib.hid hfin
        have hm0 : m ≤ 0 := by omega
        have HH := Lib.hid h
        have hlu : L.length = u.length := by rw [hfin, List.length_map]
        have HLU := Lib.hid hlu
        clear hall hn h hjn hfin h0 hlu
        go_wp2_with fail
        go_ret2
        have h := HH.out
        cases h
        exact RetVE.mk rfl (hrow1.own_at HLU.out HF.out) hbel
      · obtain ⟨mm, hm1, hm2⟩ := HUO.out.some (by omega) (by rw [← HM.out]; exact h0)
        have h := HD.out
        rw [lkR_un hm1 hm2] at h
        cases h
        clear hall hm1 hm2
        go_wp2_with fail
        go_ret2
        exact RetVE.mk rfl (OwnV.nil _ _ _ _) hbel
section
variable (s : ByteArray) (hs : s.size ≤ 140737488351232)
include hs
set_option maxRecDepth 100000 in
set_option maxHeartbeats 4000000 in
theorem decode_in (n a b : Nat) (w : World) (hn : n ≤ 4096) (hg : getR s 0 = (a, (b : Int), 0)) (hbs : b ≤ s.size) (hk : a ≤ n ∧ (a = 0 → n = 0)) (b0 : Bool) (hd0 : ((a : Int) == 0) = b0) (hd1 : b0 = true → n ≤ 0) :
    Calls Tryz.prog 86 #[.string s, .int .i64 (n : Int)] w (RetVE Value.string 9 (decD s (n : Nat)).1 (decD s (n : Nat)).2 w) := by
  have HG := fun w => Lib.hid (vget_ok s 0 w (by unfold maxLen; omega) hg)
  have hk1 := hk.1
  cases b0 with
  | true =>
    have hd1' := hd1 rfl
    clear hd1
    obtain ⟨ws, q, c2, hw⟩ : ∃ ws q c, dws s a (b : Nat) [] = (ws, q, c) := ⟨_, _, _, rfl⟩
    have HGW := fun w => Lib.hid (getwords_any s a b w hs (by omega) hbs hw)
    by_cases hc2 : c2 = 0
    · subst hc2
      obtain ⟨rest, m, f1, f2, f3, f4, f5, f6, f7, f8⟩ := dws_zero s a b [] ws q hbs hw Asc.nil
      rw [List.nil_append] at f1
      subst f1
      subst f3
      obtain ⟨u, c3, hu⟩ : ∃ u c, unpackR (s.extract m s.size) n (wdt a : Nat) = (u, c) := ⟨_, _, rfl⟩
      have HUN := fun w => Lib.hid (bunpack_eq (s.extract m s.size) n (wdt a : Nat) w hu)
      have HIW := fun w => Lib.hid (show Calls Tryz.prog 111 #[.int .i64 (ws.length : Int)] w (Ret (.int .i64 (wdt a : Nat)) w) by
        have hi := iwidth_any ws.length w (by omega)
        rwa [show wdt ws.length = wdt a by rw [f2]] at hi)
      have hwd := wdt_le (k := a) (by omega)
      by_cases hc3 : c3 = 0
      · subst hc3
        obtain ⟨u1, u2, _⟩ := unpack_zero hn (show wdt a ≤ 64 by omega) hu
        have hul : u.length ≤ 4096 := by omega
        have hu64 : ∀ x ∈ u, x < 2 ^ 64 := fun x hx => Nat.lt_of_lt_of_le (u2 x hx) (Nat.pow_le_pow_right (by decide) (by omega))
        have HLK := fun v1 v2 w h1 h2 => Lib.hid (lookup_any v1 v2 ws u w h1 h2 (by omega) hul hu64 (l := (lkR ws u).1) (c := (lkR ws u).2) rfl)
        rw [decD_l hn hg hk hw hu]
        clear f2 f4 f6 f7 f8 hw hu hg u1 u2 hul hu64 hwd
        generalize lkR ws u = R at *
        generalize wdt a = d at *
        go_enter Tryz.func86, Tryz.ntmps86
        go_wp2_with (first
          | (go_at_call 82; (with_reducible refine (HG _).out.mono ?_); rintro e w' ⟨rfl, rfl⟩)
          | (go_at_call 109; (with_reducible refine (HGW _).out.mono ?_); rintro e w4 ⟨v4, rfl, hown4, hb4⟩; obtain ⟨A4, k4, _, rfl, rfl, hk4, hk5⟩ := hown4.read.bds))
        have hr4 : RdV Value.string w4.drew w4.drew.heap.size (.slice A4 ws.length k4) ws := hown4.read
        clear hown4
        go_region_with (first
          | (go_at_call 111; (with_reducible refine (HIW _).out.mono ?_); rintro e w' ⟨rfl, rfl⟩)
          | (go_at_call 110; (with_reducible refine (HUN _).out.mono ?_); rintro e w5 ⟨v5, rfl, hown5, hb5⟩))
        all_goals have hr5 := hr4.step hb5
        all_goals have hru := hown5.read
        all_goals clear hr4 hown5
        all_goals go_wp2_with (go_at_call 112; (with_reducible refine (HLK _ _ _ hr5 hru).out.mono ?_); rintro e w6 ⟨v6, rfl, hown6, hb6⟩)
        all_goals go_ret2
        all_goals have hbb := bel_trans hb4.drew hb5
        all_goals exact RetVE.mk rfl (hown6.lower hbb.size) (bel_trans hbb hb6)
      · rw [decD_u hn hg hk hw hu hc3]
        have hdc : ((c3 : Int) != 0) = true := by simp; omega
        clear f2 f4 f6 f7 f8 hw hu hg hwd hc3
        generalize wdt a = d at *
        go_enter Tryz.func86, Tryz.ntmps86
        go_wp2_with (first
          | (go_at_call 82; (with_reducible refine (HG _).out.mono ?_); rintro e w' ⟨rfl, rfl⟩)
          | (go_at_call 109; (with_reducible refine (HGW _).out.mono ?_); rintro e w4 ⟨v4, rfl, hown4, hb4⟩; obtain ⟨A4, k4, _, rfl, rfl, hk4, hk5⟩ := hown4.read.bds))
        go_region_with (first
          | (go_at_call 111; (with_reducible refine (HIW _).out.mono ?_); rintro e w' ⟨rfl, rfl⟩)
          | (go_at_call 110; (with_reducible refine (HUN _).out.mono ?_); rintro e w5 ⟨v5, rfl, hown5, hb5⟩))
        all_goals go_wp2_with fail
        all_goals go_ret2
        all_goals exact RetVE.mk rfl (OwnV.nil _ _ _ _) (bel_trans hb4.drew hb5)
    · rw [decD_w hn hg hk hw hc2]
      have hdc : ((c2 : Int) != 0) = true := by simp; omega
      clear hw hg hc2
      go_enter Tryz.func86, Tryz.ntmps86
      go_wp2_with (first
        | (go_at_call 82; (with_reducible refine (HG _).out.mono ?_); rintro e w' ⟨rfl, rfl⟩)
        | (go_at_call 109; (with_reducible refine (HGW _).out.mono ?_); rintro e w4 ⟨v4, rfl, hown4, hb4⟩))
      go_ret2
      exact RetVE.mk rfl (OwnV.nil _ _ _ _) hb4
  | false =>
    clear hd1
    obtain ⟨ws, q, c2, hw⟩ : ∃ ws q c, dws s a (b : Nat) [] = (ws, q, c) := ⟨_, _, _, rfl⟩
    have HGW := fun w => Lib.hid (getwords_any s a b w hs (by omega) hbs hw)
    by_cases hc2 : c2 = 0
    · subst hc2
      obtain ⟨rest, m, f1, f2, f3, f4, f5, f6, f7, f8⟩ := dws_zero s a b [] ws q hbs hw Asc.nil
      rw [List.nil_append] at f1
      subst f1
      subst f3
      obtain ⟨u, c3, hu⟩ : ∃ u c, unpackR (s.extract m s.size) n (wdt a : Nat) = (u, c) := ⟨_, _, rfl⟩
      have HUN := fun w => Lib.hid (bunpack_eq (s.extract m s.size) n (wdt a : Nat) w hu)
      have HIW := fun w => Lib.hid (show Calls Tryz.prog 111 #[.int .i64 (ws.length : Int)] w (Ret (.int .i64 (wdt a : Nat)) w) by
        have hi := iwidth_any ws.length w (by omega)
        rwa [show wdt ws.length = wdt a by rw [f2]] at hi)
      have hwd := wdt_le (k := a) (by omega)
      by_cases hc3 : c3 = 0
      · subst hc3
        obtain ⟨u1, u2, _⟩ := unpack_zero hn (show wdt a ≤ 64 by omega) hu
        have hul : u.length ≤ 4096 := by omega
        have hu64 : ∀ x ∈ u, x < 2 ^ 64 := fun x hx => Nat.lt_of_lt_of_le (u2 x hx) (Nat.pow_le_pow_right (by decide) (by omega))
        have HLK := fun v1 v2 w h1 h2 => Lib.hid (lookup_any v1 v2 ws u w h1 h2 (by omega) hul hu64 (l := (lkR ws u).1) (c := (lkR ws u).2) rfl)
        rw [decD_l hn hg hk hw hu]
        clear f2 f4 f6 f7 f8 hw hu hg u1 u2 hul hu64 hwd
        generalize lkR ws u = R at *
        generalize wdt a = d at *
        go_enter Tryz.func86, Tryz.ntmps86
        go_wp2_with (first
          | (go_at_call 82; (with_reducible refine (HG _).out.mono ?_); rintro e w' ⟨rfl, rfl⟩)
          | (go_at_call 109; (with_reducible refine (HGW _).out.mono ?_); rintro e w4 ⟨v4, rfl, hown4, hb4⟩; obtain ⟨A4, k4, _, rfl, rfl, hk4, hk5⟩ := hown4.read.bds))
        have hr4 : RdV Value.string w4.drew w4.drew.heap.size (.slice A4 ws.length k4) ws := hown4.read
        clear hown4
        go_region_with (first
          | (go_at_call 111; (with_reducible refine (HIW _).out.mono ?_); rintro e w' ⟨rfl, rfl⟩)
          | (go_at_call 110; (with_reducible refine (HUN _).out.mono ?_); rintro e w5 ⟨v5, rfl, hown5, hb5⟩))
        all_goals have hr5 := hr4.step hb5
        all_goals have hru := hown5.read
        all_goals clear hr4 hown5
        all_goals go_wp2_with (go_at_call 112; (with_reducible refine (HLK _ _ _ hr5 hru).out.mono ?_); rintro e w6 ⟨v6, rfl, hown6, hb6⟩)
        all_goals go_ret2
        all_goals have hbb := bel_trans hb4.drew hb5
        all_goals exact RetVE.mk rfl (hown6.lower hbb.size) (bel_trans hbb hb6)
      · rw [decD_u hn hg hk hw hu hc3]
        have hdc : ((c3 : Int) != 0) = true := by simp; omega
        clear f2 f4 f6 f7 f8 hw hu hg hwd hc3
        generalize wdt a = d at *
        go_enter Tryz.func86, Tryz.ntmps86
        go_wp2_with (first
          | (go_at_call 82; (with_reducible refine (HG _).out.mono ?_); rintro e w' ⟨rfl, rfl⟩)
          | (go_at_call 109; (with_reducible refine (HGW _).out.mono ?_); rintro e w4 ⟨v4, rfl, hown4, hb4⟩; obtain ⟨A4, k4, _, rfl, rfl, hk4, hk5⟩ := hown4.read.bds))
        go_region_with (first
          | (go_at_call 111; (with_reducible refine (HIW _).out.mono ?_); rintro e w' ⟨rfl, rfl⟩)
          | (go_at_call 110; (with_reducible refine (HUN _).out.mono ?_); rintro e w5 ⟨v5, rfl, hown5, hb5⟩))
        all_goals go_wp2_with fail
        all_goals go_ret2
        all_goals exact RetVE.mk rfl (OwnV.nil _ _ _ _) (bel_trans hb4.drew hb5)
    · rw [decD_w hn hg hk hw hc2]
      have hdc : ((c2 : Int) != 0) = true := by simp; omega
      clear hw hg hc2
      go_enter Tryz.func86, Tryz.ntmps86
      go_wp2_with (first
        | (go_at_call 82; (with_reducible refine (HG _).out.mono ?_); rintro e w' ⟨rfl, rfl⟩)
        | (go_at_call 109; (with_reducible refine (HGW _).out.mono ?_); rintro e w4 ⟨v4, rfl, hown4, hb4⟩))
      go_ret2
      exact RetVE.mk rfl (OwnV.nil _ _ _ _) hb4
set_option maxRecDepth 100000 in
set_option maxHeartbeats 1000000 in
theorem dictdec_any (n : Int) (w : World) :
    Calls Tryz.prog 86 #[.string s, .int .i64 n] w (RetVE Value.string 9 (decD s n).1 (decD s n).2 w) := by
  by_cases h0 : n < 0
  · rw [decD_out (by omega)]
    have hd0 : decide (n < 0) = true := decide_eq_true h0
    go_enter Tryz.func86, Tryz.ntmps86
    go_wp2
    go_ret2
    exact RetVE.mk rfl (OwnV.nil _ _ _ _) (Below.refl _ _)
  by_cases h1 : 4096 < n
  · rw [decD_out (by omega)]
    have hd0 : decide (n < 0) = false := decide_eq_false h0
    have hd1 : decide (4096 < n) = true := decide_eq_true h1
    go_enter Tryz.func86, Tryz.ntmps86
    go_wp2
    go_ret2
    exact RetVE.mk rfl (OwnV.nil _ _ _ _) (Below.refl _ _)
  obtain ⟨n, rfl⟩ := Int.eq_ofNat_of_zero_le (show 0 ≤ n by omega)
  have hn : n ≤ 4096 := by omega
  clear h0 h1
  obtain ⟨a, b, c, hg⟩ : ∃ a b c, getR s 0 = (a, b, c) := ⟨_, _, _, rfl⟩
  by_cases hc : c = 0
  · subst hc
    obtain ⟨k, m, e1, e2, e3, e4, e5, e6⟩ := getR_zero hg
    obtain ⟨b, rfl⟩ : ∃ b' : Nat, b = b' := ⟨k + m, by omega⟩
    by_cases hk : a ≤ n ∧ (a = 0 → n = 0)
    · rcases Nat.eq_zero_or_pos a with h0 | h0
      · exact decode_in s hs n a b w hn hg (by omega) hk true (by simp; omega) (fun _ => by have := hk.2 h0; omega)
      · exact decode_in s hs n a b w hn hg (by omega) hk false (by simp; omega) (fun h => by cases h)
    · clear e1 e2 e3 e4 e5 e6
      rw [decD_k hn hg (by omega)]
      have HG := fun w => Lib.hid (vget_ok s 0 w (by unfold maxLen; omega) hg)
      by_cases hna : n < a
      · have hna' : (n : Int) < (a : Int) := by omega
        clear hg hk
        go_enter Tryz.func86, Tryz.ntmps86
        go_wp2_with (go_at_call 82; (with_reducible refine (HG _).out.mono ?_); rintro e w' ⟨rfl, rfl⟩)
        go_ret2
        exact RetVE.mk rfl (OwnV.nil _ _ _ _) (Below.refl _ _)
      · have ha0 : a = 0 := by omega
        have hn0 : 0 < n := by omega
        subst ha0
        clear hg hk hna
        go_enter Tryz.func86, Tryz.ntmps86
        go_wp2_with (go_at_call 82; (with_reducible refine (HG _).out.mono ?_); rintro e w' ⟨rfl, rfl⟩)
        go_ret2
        exact RetVE.mk rfl (OwnV.nil _ _ _ _) (Below.refl _ _)
  · rw [decD_e hn hg hc]
    have HG := fun w => Lib.hid (vget_is s 0 w (by unfold maxLen; omega) hg)
    have hdc : ((c : Int) != 0) = true := by simp; omega
    clear hg hc
    go_enter Tryz.func86, Tryz.ntmps86
    go_wp2_with (go_at_call 82; (with_reducible refine (HG _).out.mono ?_); rintro e w' ⟨rfl, rfl⟩)
    go_ret2
    exact RetVE.mk rfl (OwnV.nil _ _ _ _) (Below.refl _ _)
end
end Go.Proofs.YtbolbbngncnecaaGreat

/- The walks over the reference: the place of a text, BuildDict. -/
namespace Go.VB
open Go.RowKit
theorem RdV.cutA {α : Type} {f : α → Value} {w : World} {B c n : Nat} {ad : Addr} {l : List α} (h : RdV f w B (.slice (some ad) n c) l) {i : Nat} (hc : c = i) : RdV f w B (.slice (some ad) (n - i) 0) (l.drop i) := by
  obtain ⟨A', c', hv, h1, h2, _⟩ := id h
  cases hv
  have : l.drop i = [] := List.drop_eq_nil_of_le (by omega)
  rw [this]
  exact ⟨_, _, by rw [show l.length - i = 0 from by omega]; rfl, by simp, by omega, fun _ _ hi => by simp at hi⟩
theorem RdV.cutB {α : Type} {f : α → Value} {w : World} {B c n : Nat} {ad : Addr} {l : List α} (h : RdV f w B (.slice (some ad) n c) l) {i : Nat} (hi : i ≤ l.length) : RdV f w B (.slice (some (ad.add i)) (n - i) (c - i)) (l.drop i) := by
  obtain ⟨A', c', hv, h1, h2, _⟩ := id h
  cases hv
  exact h.tail i hi
theorem RdV.cast {α : Type} {f : α → Value} {w : World} {B : Nat} {v : Value} {l m : List α} (h : RdV f w B v l) (he : l = m) : RdV f w B v m := by subst he; exact h
theorem RdV.cutC {α : Type} {f : α → Value} {w : World} {B c n : Nat} {ad : Addr} {l : List α} (h : RdV f w B (.slice (some ad) n c) l) {i : Nat} (hi : i ≤ l.length) : RdV f w B (.slice (if c = i then some ad else some (ad.add i)) (n - i) (c - i)) (l.drop i) := by
  by_cases hc : c = i
  · rw [if_pos hc, show c - i = 0 by omega]; exact h.cutA hc
  · rw [if_neg hc]; exact h.cutB hi
end Go.VB
namespace Go.Proofs.YtbolbbngncnecaaGreat
open Go.RowKit Go.VB Go.VarM Go.BP Go.RL Go.DI
set_option maxRecDepth 100000 in
set_option maxHeartbeats 1000000 in
theorem place_any (v : Value) (l : List ByteArray) (s : ByteArray) (B : Nat) (w : World) (hr : RdV Value.string w B v l) :
    Calls Tryz.prog 90 #[v, .string s] w (Ret (.int .i64 (plc s l : Nat)) w) := by
  obtain ⟨A, c, _, rfl, rfl, hc1, hc2⟩ := hr.bds
  have hpl := plc_le s l
  have HST := Lib.hid (fun i x => plc_step (s := s) (l := l) (i := i) (x := x)); have HSP := Lib.hid (fun i x => plc_stop (s := s) (l := l) (i := i) (x := x)); have HE := Lib.hid (fun i => plc_end (s := s) (l := l) (i := i))
  generalize plc s l = P at *
  have HR := Lib.hid hr; clear hr
  go_enter Tryz.func90, Tryz.ntmps90
  go_wp2
  go_loopw [5] (fun i wr => ∃ j : Nat, i = .int .i64 j ∧ j ≤ P ∧ wr = w) (fun i _ => P - (intOf i).toNat)
  case atStart => exact ⟨0, rfl, Nat.zero_le _, rfl⟩
  case round =>
    obtain ⟨j, rfl, hj, rfl⟩ := hrel
    by_cases hlt : j < l.length
    · have hx : l[j]? = some l[j] := List.getElem?_eq_getElem hlt
      obtain ⟨ad, rfl, _, hgx⟩ := HR.out.at hx
      have H1 := Lib.hid (HST.out j l[j] hj hx); have H2 := Lib.hid (HSP.out j l[j] hj hx)
      clear hx
      generalize l[j] = x at *
      cases hxs : lts x s with
      | true =>
        have hd := less_at hxs
        have hP := H1.out hxs
        have HP := Lib.hid hP
        clear hxs hP
        go_wp2_with fail
        go_roundw
        case rel => exact ⟨j + 1, by go_num, HP.out, trivial⟩
        case measure => have := HP.out; simp [intOf] <;> omega
      | false =>
        have hd := less_at hxs
        have hP := H2.out hxs
        have HP := Lib.hid hP
        clear hxs hP
        go_wp2_with fail
        go_ret
        exact Ret.mk (by rw [HP.out]; rfl)
    · have hP := Lib.hid (HE.out j hj (by omega))
      go_wp2_with fail
      go_ret
      exact Ret.mk (by rw [hP.out]; rfl)
set_option maxRecDepth 100000 in
set_option maxHeartbeats 4000000 in
theorem rbuild_any (v : Value) (l : List ByteArray) (B : Nat) (w : World) (hr : RdV Value.string w B v l) (hB : B ≤ w.heap.size) (hl : l.length ≤ 8796093022208) :
    Calls Tryz.prog 59 #[v] w (Ret2 Value.string nI (srt l) (idx l) w) := by
  obtain ⟨A, c, _, rfl, rfl, hc1, hc2⟩ := hr.bds
  have HR := Lib.hid hr; clear hr
  go_enter Tryz.func59, Tryz.ntmps59
  go_wp2
  go_loopw [4, 14] (fun v i wr => ∃ (j : Nat) (ws : List ByteArray), i = .int .i64 j ∧ j ≤ l.length ∧ OwnV Value.string 9 wr w.heap.size v ws ∧ ws = srt (l.take j) ∧ (ws = [] → v = .slice none 0 0) ∧ Below w.heap.size w wr) (fun _ i _ => l.length - (intOf i).toNat)
  case atStart => exact ⟨0, [], rfl, Nat.zero_le _, OwnV.nil _ _ _ _, rfl, fun _ => rfl, Below.refl _ _⟩
  case round =>
    obtain ⟨j, ws, rfl, hj, hown, hws, hnil, hbel⟩ := hrel
    have hwl : ws.length ≤ j := by rw [hws]; exact (srt_facts l j).2.2
    have hszr := hbel.size
    by_cases hlt : j < l.length
    · have hx : l[j]? = some l[j] := List.getElem?_eq_getElem hlt
      obtain ⟨ad, rfl, _, hgx⟩ := (HR.out.below (hbel.mono hB)).at hx
      have hst := srt_take hx
      rw [← hws] at hst
      clear hx
      generalize l[j] = s at hgx hst
      have HPL := Lib.hid (fun v h => place_any v ws s wr.heap.size wr h)
      have hpl := plc_le s ws
      have hin := fun h => ins_new (s := s) (l := ws) h
      have hio := fun h => ins_old (s := s) (l := ws) h
      have hne : ins s ws ≠ [] := fun e => by have : s ∈ ins s ws := mem_ins.2 (.inl rfl); rw [e] at this; simp at this
      have HNE := Lib.hid hne
      clear hne
      rcases Nat.eq_zero_or_pos ws.length with h0 | h0
      · have hw0 : ws = [] := List.eq_nil_of_length_eq_zero h0
        obtain rfl := hnil hw0
        subst hw0
        clear hnil h0 hpl hwl hio
        have e1 : ins s [] = [] ++ [s] ++ [] := by unfold ins; simp [plc]
        have HST := Lib.hid (hst.trans e1)
        have HP0 := Lib.hid (show Calls Tryz.prog 90 #[.slice none 0 0, .string s] wr (Ret (.int .i64 0) wr) from HPL.out _ hown.read)
        clear hst e1 hin HPL hws
        have hn1 := RdV.nil Value.string wr wr.heap.size
        have hTD : ([] : List ByteArray).length + 1 + ([] : List ByteArray).length ≤ 8796093022208 := by decide
        go_wp2_with (first
          | (go_at_call 90; (with_reducible refine HP0.out.mono ?_); rintro e w' ⟨rfl, rfl⟩)
          | (at_builtin; refine wpl_appV (f := Value.string) (fun _ => rfl) (.string ⟨#[]⟩) rfl rfl _ _ 73 rfl wr.heap.size 9 16 Tryz.underlying73 Tryz.infStr (.slice none 0 0) ([]) rfl (OwnV.nil _ _ _ _) wr.heap.size (.slice none 0 0) (([] : List ByteArray)) rfl (hn1) (by unfold maxLen; simp only [List.length_nil]; omega) (by simp only [List.length_nil]; omega) (Nat.le_refl _) ?_; intro v1 w1 hown1 hb1 _; have hz1 := hb1.size; rw [List.nil_append] at hown1)
          | (at_builtin; refine wpl_appV (f := Value.string) (fun _ => rfl) (.string ⟨#[]⟩) rfl rfl _ _ 73 rfl wr.heap.size 9 16 Tryz.underlying73 Tryz.infStr v1 (([] : List ByteArray)) rfl (hown1.alloc _) (w1.heap.size + 1) _ ([s]) rfl (RdV.one _ _ _ _ _ (by decide) (by decide)) (by unfold maxLen; simp only [List.length_cons, List.length_nil]; omega) (by simp only [List.length_cons, List.length_nil]; omega) (by simp; omega) ?_; intro v2 w2 hown2 hb2 _; have hz2 := hb2.size; have hb12 := (hb1.alloc hz1 _).trans hb2; clear hown1)
          | (at_builtin; refine wpl_appV (f := Value.string) (fun _ => rfl) (.string ⟨#[]⟩) rfl rfl _ _ 73 rfl wr.heap.size 9 16 Tryz.underlying73 Tryz.infStr v2 (([] : List ByteArray) ++ [s]) rfl (hown2) wr.heap.size (.slice none 0 0) (([] : List ByteArray)) rfl (RdV.nil _ _ _) (by unfold maxLen; rw [List.length_append]; simp only [List.length_cons, List.length_nil]; omega) (by rw [List.length_append]; simp only [List.length_cons, List.length_nil]; omega) (hb12.size) ?_; intro v3 w3 hown3 hb3 _; have hb13 := hb12.trans hb3; clear hown2 hb12 hb1 hb2 hb3))
        all_goals go_roundw
        all_goals first
          | (simp [intOf]; omega)
          | exact ⟨j + 1, _, by go_num, hlt, hown3.lower hszr, HST.out.symm, fun e => by simp at e, hbel.trans (hb13.mono hszr)⟩
      · obtain ⟨A2, cc, _, rfl, rfl, hq1, hq2⟩ := hown.read.bds
        obtain ⟨ad2, rfl, -, -⟩ := hown.read.at (List.getElem?_eq_getElem h0)
        have hrd := hown.read
        have HP0 := Lib.hid (HPL.out _ hrd)
        generalize hp : plc s ws = p at *
        have htk : (ws.take p).length = p := by rw [List.length_take]; omega
        have hrA : RdV Value.string wr wr.heap.size (.slice (some ad2) p cc) (ws.take p) := by
          have := hrd.head (m := ws.take p) (by rw [htk]) (by omega)
          rwa [htk] at this
        have hrCA := fun (h : cc = p) => hrd.cutA (i := p) h
        have hrCB := hrd.cutB (i := p) hpl
        have hTD : (ws.take p).length + 1 + (ws.drop p).length ≤ 8796093022208 := by rw [htk, List.length_drop]; omega
        have hspl : (ws.take p) ++ s :: (ws.drop p) = (ws.take p) ++ [s] ++ (ws.drop p) := by rw [List.append_assoc]; rfl
        by_cases hnew : ws[p]? = some s
        · have hio' := hio hnew
          obtain ⟨hpl2, _⟩ := List.getElem?_eq_some_iff.1 hnew
          obtain ⟨bd, hbd, _, hgy⟩ := hrd.at hnew
          cases hbd
          rw [hio'] at hst
          have HST := Lib.hid hst; have HNIL := Lib.hid hnil; have HOWN := Lib.hid hown
          have hd : ((p : Int) == (ws.length : Int)) = false := by simp; omega
          have hd2 := text_eq (s := s) (t := s) rfl
          have HW0 := Lib.hid (show ws ≠ [] from fun e => by rw [e] at h0; simp at h0)
          clear hst hin hio hio' hnew hnil hws HPL hp htk hrA hrCA hrCB hTD hspl hrd hown h0
          go_wp2_with (first
            | (go_at_call 90; (with_reducible refine HP0.out.mono ?_); rintro e w' ⟨rfl, rfl⟩))
          go_roundw
          case rel => exact ⟨j + 1, ws, by go_num, hlt, HOWN.out, HST.out.symm, fun e => absurd e HW0.out, hbel⟩
          case measure => simp [intOf] <;> omega
        · have hin' := hin hnew
          rw [hin', hspl] at hst
          have HST := Lib.hid hst
          rcases Nat.lt_or_ge p ws.length with hpl2 | hpl2
          · have hy : ws[p]? = some ws[p] := List.getElem?_eq_getElem hpl2
            obtain ⟨bd, hbd, _, hgy⟩ := hrd.at hy
            cases hbd
            rw [hy] at hnew
            have hd : ((p : Int) == (ws.length : Int)) = false := by simp; omega
            clear hy
            generalize ws[p] = y at hgy hnew
            have hd2 := text_ne (s := y) (t := s) (fun e => hnew (by rw [e]))
            clear hst hin hin' hio hnew hnil hws HPL hp htk hspl hrd h0
            generalize ws.take p = T at *
            generalize ws.drop p = D at *
            go_wp2_with (first
              | (go_at_call 90; (with_reducible refine HP0.out.mono ?_); rintro e w' ⟨rfl, rfl⟩)
              | (at_builtin; refine wpl_appV (f := Value.string) (fun _ => rfl) (.string ⟨#[]⟩) rfl rfl _ _ 73 rfl wr.heap.size 9 16 Tryz.underlying73 Tryz.infStr (.slice none 0 0) ([]) rfl (OwnV.nil _ _ _ _) wr.heap.size (.slice (some ad2) p cc) (T) rfl (hrA) (by unfold maxLen; simp only [List.length_nil]; omega) (by simp only [List.length_nil]; omega) (Nat.le_refl _) ?_; intro v1 w1 hown1 hb1 _; have hz1 := hb1.size; rw [List.nil_append] at hown1)
              | (at_builtin; refine wpl_appV (f := Value.string) (fun _ => rfl) (.string ⟨#[]⟩) rfl rfl _ _ 73 rfl wr.heap.size 9 16 Tryz.underlying73 Tryz.infStr v1 (T) rfl (hown1.alloc _) (w1.heap.size + 1) _ ([s]) rfl (RdV.one _ _ _ _ _ (by decide) (by decide)) (by unfold maxLen; simp only [List.length_cons, List.length_nil]; omega) (by simp only [List.length_cons, List.length_nil]; omega) (by simp; omega) ?_; intro v2 w2 hown2 hb2 _; have hz2 := hb2.size; have hb12 := (hb1.alloc hz1 _).trans hb2; clear hown1)
              | (at_builtin; refine wpl_appV (f := Value.string) (fun _ => rfl) (.string ⟨#[]⟩) rfl rfl _ _ 73 rfl wr.heap.size 9 16 Tryz.underlying73 Tryz.infStr v2 (T ++ [s]) rfl (hown2) wr.heap.size _ (D) rfl (by first | exact (hrCA (by assumption)).below hb12 | exact hrCB.below hb12) (by unfold maxLen; rw [List.length_append]; simp only [List.length_cons, List.length_nil]; omega) (by rw [List.length_append]; simp only [List.length_cons, List.length_nil]; omega) (hb12.size) ?_; intro v3 w3 hown3 hb3 _; have hb13 := hb12.trans hb3; clear hown2 hb12 hb1 hb2 hb3))
            all_goals go_roundw
            all_goals first
              | (simp [intOf]; omega)
              | exact ⟨j + 1, _, by go_num, hlt, hown3.lower hszr, HST.out.symm, fun e => by simp at e, hbel.trans (hb13.mono hszr)⟩
          · have hd : ((p : Int) == (ws.length : Int)) = true := by simp; omega
            have hrC0 : RdV Value.string wr wr.heap.size (.slice (if cc = p then some ad2 else some (ad2.add p)) 0 (cc - p)) (ws.drop p) := by have := hrd.cutC hpl; rwa [show ws.length - p = 0 by omega] at this
            clear hst hin hin' hio hnew hnil hws HPL hp htk hspl hrd h0
            generalize ws.take p = T at *
            generalize ws.drop p = D at *
            go_wp2_with (first
              | (go_at_call 90; (with_reducible refine HP0.out.mono ?_); rintro e w' ⟨rfl, rfl⟩)
              | (at_builtin; refine wpl_appV (f := Value.string) (fun _ => rfl) (.string ⟨#[]⟩) rfl rfl _ _ 73 rfl wr.heap.size 9 16 Tryz.underlying73 Tryz.infStr (.slice none 0 0) ([]) rfl (OwnV.nil _ _ _ _) wr.heap.size (.slice (some ad2) p cc) (T) rfl (hrA) (by unfold maxLen; simp only [List.length_nil]; omega) (by simp only [List.length_nil]; omega) (Nat.le_refl _) ?_; intro v1 w1 hown1 hb1 _; have hz1 := hb1.size; rw [List.nil_append] at hown1)
              | (at_builtin; refine wpl_appV (f := Value.string) (fun _ => rfl) (.string ⟨#[]⟩) rfl rfl _ _ 73 rfl wr.heap.size 9 16 Tryz.underlying73 Tryz.infStr v1 (T) rfl (hown1.alloc _) (w1.heap.size + 1) _ ([s]) rfl (RdV.one _ _ _ _ _ (by decide) (by decide)) (by unfold maxLen; simp only [List.length_cons, List.length_nil]; omega) (by simp only [List.length_cons, List.length_nil]; omega) (by simp; omega) ?_; intro v2 w2 hown2 hb2 _; have hz2 := hb2.size; have hb12 := (hb1.alloc hz1 _).trans hb2; clear hown1)
              | (at_builtin; refine wpl_appV (f := Value.string) (fun _ => rfl) (.string ⟨#[]⟩) rfl rfl _ _ 73 rfl wr.heap.size 9 16 Tryz.underlying73 Tryz.infStr v2 (T ++ [s]) rfl (hown2) wr.heap.size _ (D) rfl (by first | exact (hrCA (by assumption)).below hb12 | exact hrCB.below hb12 | exact hrC0.below hb12) (by unfold maxLen; rw [List.length_append]; simp only [List.length_cons, List.length_nil]; omega) (by rw [List.length_append]; simp only [List.length_cons, List.length_nil]; omega) (hb12.size) ?_; intro v3 w3 hown3 hb3 _; have hb13 := hb12.trans hb3; clear hown2 hb12 hb1 hb2 hb3))
            all_goals go_roundw
            all_goals first
              | (simp [intOf]; omega)
              | exact ⟨j + 1, _, by go_num, hlt, hown3.lower hszr, HST.out.symm, fun e => by simp at e, hbel.trans (hb13.mono hszr)⟩
    · have hjn : j = l.length := by omega
      have hwS : ws = srt l := by rw [hws, hjn, List.take_length]
      have hIx := fun j s (h : l[j]? = some s) => idx_at h
      have hIl := idx_len l
      obtain ⟨A2, cc, _, rfl, rfl, hq1, hq2⟩ := hown.read.bds
      have hrd := hown.read
      rw [← hwS] at hIx
      have HWS := Lib.hid hwS
      clear hjn hws hnil hown hwS
      generalize idx l = I at *
      have hIS : ∀ j s, l[j]? = some s → I[j]? = some (plc s ws) := hIx
      have HIX := Lib.hid hIS; have HIL := Lib.hid hIl; have HRD := Lib.hid hrd
      clear hIx hIS hIl hrd
      go_wp2_with fail
      go_loopw [9, 49] (fun v i wk => ∃ (j : Nat), i = .int .i64 j ∧ j ≤ l.length ∧ OwnV nI 3 wk wr.heap.size v (I.take j) ∧ Below wr.heap.size wr wk) (fun _ i _ => l.length - (intOf i).toNat)
      case atStart => exact ⟨0, rfl, Nat.zero_le _, OwnV.nil _ _ _ _, Below.refl _ _⟩
      case round =>
        obtain ⟨j, rfl, hj, hown, hbel2⟩ := hrel
        by_cases hjl : j < l.length
        · have hx : l[j]? = some l[j] := List.getElem?_eq_getElem hjl
          have hix := HIX.out j _ hx
          obtain ⟨ad, rfl, _, hgx⟩ := (HR.out.below ((hbel.trans (hbel2.mono hszr)).mono hB)).at hx
          clear hx
          generalize l[j] = x at hgx hix
          have HPL := Lib.hid (place_any _ ws x _ wr (HRD.out.below hbel2))
          have hts := Go.DI.take_snoc hix
          have HTS := Lib.hid hts
          have htl : (I.take j).length ≤ j := by rw [List.length_take]; omega
          have hszq := hbel2.size
          clear hix hts
          generalize plc x ws = P at *
          go_wp2_with (first
            | (go_at_call 90; (with_reducible refine HPL.out.mono ?_); rintro e w' ⟨rfl, rfl⟩)
            | (at_builtin; refine wpl_appV (f := nI) (fun _ => rfl) (.int .i64 0) rfl rfl _ _ 22 rfl _ 3 8 Tryz.underlying22 Tryz.infInt _ (I.take j) rfl (hown.alloc _) (wr.heap.size + 1) _ [P] rfl (RdV.one nI _ P _ _ (by decide) (by decide)) (by unfold maxLen; simp only [List.length_cons, List.length_nil]; omega) (by simp only [List.length_cons, List.length_nil]; omega) (by simp; omega) ?_; intro v' w' hown' hb' _))
          go_roundw
          case rel => exact ⟨j + 1, by go_num, hjl, by rw [HTS.out]; exact hown', (hbel2.alloc hszq _).trans hb'⟩
          case measure => simp [intOf] <;> omega
        · have hjn : I.take j = I := List.take_of_length_le (by have := HIL.out; omega)
          have HJ := Lib.hid hjn
          have hb := hbel.trans (hbel2.mono hszr)
          have hr2 := (HRD.out.below hbel2).more hbel2.size
          have hc2 := hown.read
          rw [hjn] at hc2
          have HR2 := Lib.hid hr2; have HC2 := Lib.hid hc2
          obtain ⟨A5, k5, n5, rfl, _, _, _⟩ := hown.read.bds
          clear hjn hr2 hc2 hown
          go_wp2_with fail
          go_ret2
          exact Ret2.mk rfl (HR2.out.cast HWS.out) HC2.out hb
end Go.Proofs.YtbolbbngncnecaaGreat

/- The walks over the reference: EncodeDict. -/
namespace Go.Proofs.YtbolbbngncnecaaGreat
open Go.RowKit Go.VB Go.VarM Go.BP Go.RL Go.DI
set_option maxRecDepth 100000 in
set_option maxHeartbeats 4000000 in
theorem rdictenc_any (v : Value) (l : List ByteArray) (B : Nat) (w : World) (hr : RdV Value.string w B v l) (hB : B ≤ w.heap.size) (hl : l.length ≤ 8796093022208) (hz : ∀ x ∈ l, x.size ≤ maxLen) (hs : (encD l).length ≤ 140737488355328) :
    Calls Tryz.prog 37 #[v] w (RetB (.string (str (encD l))) w) := by
  obtain ⟨A, c, _, rfl, rfl, hc1, hc2⟩ := hr.bds
  by_cases h4 : 4096 < l.length
  · have he := encD_out h4
    rw [he]
    have HR := Lib.hid hr; have HZ := Lib.hid hz
    clear hr hz hs he
    go_enter Tryz.func37, Tryz.ntmps37
    go_wp2_with fail
    go_ret
    exact RetB.mk rfl (Below.refl _ _)
  rw [encD_in (by omega)] at hs ⊢
  have HBD := Lib.hid (rbuild_any _ l B w hr hB hl)
  have hSl := srt_len l
  have hIl := idx_len l
  have hIlt := idx_lt l
  have hS0 := srt_nil_iff (l := l)
  have hSz : ∀ x ∈ srt l, x.size ≤ maxLen := fun x hx => hz x (srt_mem.1 hx)
  clear hr hz
  generalize srt l = S at *
  generalize idx l = I at *
  unfold encW at hs ⊢
  have HPUT := fun w' => Lib.hid (rput_any S.length w' (by omega))
  have hwd := wdt_le (k := S.length) (by omega)
  have hpk := packed_le (u := I) (w := wdt S.length) (by omega) hwd
  have hpr := packR_ok (l := I) (w := wdt S.length) (by omega) (by omega) (fun i hi => wdt_lt (hIlt i hi))
  have hi64 : ∀ x ∈ I, x < 2 ^ 64 := fun x hx => by have := hIlt x hx; omega
  have HPK := fun v' w' (h : RdN .u64 w' w'.heap.size v' I) => Lib.hid (rpack_eq v' I (wdt S.length : Nat) _ w' h (Nat.le_refl _) hi64 hpr)
  have hnil : S.length = 0 → packed I (wdt S.length) = [] := fun h => by
    have : I = [] := List.eq_nil_of_length_eq_zero (by omega)
    rw [this, packed_nil]
  have HNIL := Lib.hid hnil
  have HWI := Lib.hid (fun m (h : S.length = m + 1) w => (show Calls Tryz.prog 61 #[.int .u64 (m : Int)] w (Ret (.int .i64 (wdt S.length : Nat)) w) by
    have := rwidth_any m w (by omega)
    rwa [show wid m = wdt S.length by unfold wdt; rw [h]; rfl] at this))
  clear hnil hpr hi64
  generalize packed I (wdt S.length) = P at *
  have hput : (putL S.length).length ≤ 10 := putL_len10 (by omega)
  have HADD := fun w' => run_add_two (P := Tryz.prog) (putL S.length ++ wrds S) P (by rw [List.length_append] at hs; omega) w'
  rw [List.length_append, List.length_append] at hs
  have hww : (wrds S).length ≤ 140737488355328 := by omega
  generalize hT : putL S.length ++ wrds S ++ P = T at *
  have HT := Lib.hid hT; have HSZ := Lib.hid hSz; have HIL := Lib.hid hIlt; have HIE := Lib.hid hIl; have HS0 := Lib.hid hS0
  have hI4 : I.length ≤ 4096 := by omega
  clear hT hs hSz hIlt hIl hS0
  generalize wdt S.length = d at *
  go_enter Tryz.func37, Tryz.ntmps37
  go_wp2_with fail
  refine HBD.out.mono ?_
  rintro e w1 ⟨v1, v2, rfl, hr1, hr2, hb1⟩
  obtain ⟨A1, c1, _, rfl, rfl, hd1, hd2⟩ := hr1.bds
  obtain ⟨A2, c2, n2, rfl, hn2, he1, he2⟩ := hr2.bds
  clear HBD
  have HR1 := Lib.hid hr1; have HR2 := Lib.hid hr2; have HN2 := Lib.hid hn2
  have hn4 : n2 ≤ 4096 := by omega
  clear hr1 hr2 hn2
  go_wp2_with fail
  refine (HPUT _).out.mono ?_
  rintro e w2 ⟨rfl, hb2⟩
  clear HPUT
  go_wp2_with fail
  go_loopw [5, 27] (fun v i wr => ∃ (bs : List UInt8) (j : Nat), v = .string (str bs) ∧ i = .int .i64 j ∧ j ≤ S.length ∧ bs = putL S.length ++ wrds (S.take j) ∧ Below w1.heap.size w1 wr) (fun _ i _ => S.length - (intOf i).toNat)
  case atStart => exact ⟨_, 0, rfl, rfl, Nat.zero_le _, by rw [List.take_zero, wrds_nil, List.append_nil], hb2⟩
  case round =>
    clear hb2
    obtain ⟨bs, j, rfl, rfl, hj, hbs, hbel⟩ := hrel
    by_cases hlt : j < S.length
    · have hx : S[j]? = some S[j] := List.getElem?_eq_getElem hlt
      have hxs := HSZ.out _ (List.mem_of_getElem? hx)
      obtain ⟨ad, rfl, _, hgx⟩ := (HR1.out.below hbel).at hx
      have hw1 := wrds_take hx
      have hw2 := wrds_take_le S (j + 1)
      clear hx
      generalize S[j] = x at hgx hw1 hxs
      unfold maxLen at hxs
      have hnx : bs ++ wrd x = putL S.length ++ wrds (S.take (j + 1)) := by rw [hbs, hw1, List.append_assoc]
      have hlen := congrArg List.length hnx
      simp only [List.length_append, len_wrd] at hlen
      have HP := fun w' => Lib.hid (rput_any x.size w' (by omega))
      have ha1 : ∀ w', (Op.stringOp .add (str (putL x.size)) x).run Tryz.prog w' = .ok (.string (str (wrd x))) w' := fun w' => run_add_two (P := Tryz.prog) (putL x.size) x.data.toList (by rw [size_list]; omega) w'
      have ha2 := fun w' => run_add_two (P := Tryz.prog) bs (wrd x) (by rw [len_wrd]; omega) w'
      have HNX := Lib.hid hnx
      clear hnx hlen hw1 hw2 hbs HADD
      go_wp2_with (first
        | (go_at_call 15; (with_reducible refine (HP _).out.mono ?_); rintro e w4 ⟨rfl, hb⟩; replace hbel := hbel.trans (hb.mono hbel.size); clear hb))
      go_roundw
      case rel => exact ⟨_, j + 1, rfl, by go_num, hlt, HNX.out, hbel⟩
      case measure => simp [intOf] <;> omega
    · have hjn : j = S.length := by omega
      have hfin : bs = putL S.length ++ wrds S := by rw [hbs, hjn, List.take_length]
      rw [← hfin] at HADD
      have HF := Lib.hid hfin
      clear hjn hfin hbs
      rcases Nat.eq_zero_or_pos S.length with h0 | h0
      · have hP : P = [] := HNIL.out h0
        have HP0 := Lib.hid hP
        have hd : ((S.length : Int) == 0) = true := beq_iff_eq.2 (by omega)
        have hl0 : S.length ≤ 0 := by omega
        clear hP h0
        go_wp2_with fail
        go_ret
        exact RetB.mk (by rw [← HT.out, HP0.out, List.append_nil, ← HF.out]; rfl) (hb1.trans (hbel.mono hb1.size))
      · have hd : ((S.length : Int) == 0) = false := beq_eq_false_iff_ne.2 (by omega)
        obtain ⟨m, hm⟩ : ∃ m, S.length = m + 1 := ⟨S.length - 1, by omega⟩
        have HWM := Lib.hid (HWI.out m hm)
        have hm' : (S.length : Int) - 1 = (m : Int) := by omega
        have hm4 : m ≤ 4096 := by omega
        have hwz := hbel.size
        clear hm h0 HWI
        go_wp2_with fail
        go_loopw [8, 46] (fun v i wr => ∃ (j : Nat), i = .int .i64 j ∧ j ≤ I.length ∧ OwnV nU 47 wr w1.heap.size v (I.take j) ∧ Below w1.heap.size w1 wr) (fun _ i _ => I.length - (intOf i).toNat)
        case atStart => exact ⟨0, rfl, Nat.zero_le _, OwnV.nil _ _ _ _, hbel⟩
        case round =>
          clear hbel hwz
          obtain ⟨j, rfl, hj, hown, hbel⟩ := hrel
          have hn := HN2.out
          have hszr := hbel.size
          by_cases hjl : j < I.length
          · have hx : I[j]? = some I[j] := List.getElem?_eq_getElem hjl
            have hxk := HIL.out _ (List.mem_of_getElem? hx)
            obtain ⟨ad, rfl, _, hgx0⟩ := (HR2.out.below hbel).at hx
            have HTS := Lib.hid (Go.DI.take_snoc hx)
            have htl : (I.take j).length ≤ j := by rw [List.length_take]; omega
            have hjn : j < n2 := by omega
            clear hx hn
            generalize I[j] = x at hgx0 HTS hxk
            have hgx : wr.cell? (ad.add j) = some (.int .i64 (x : Int)) := hgx0
            clear hgx0
            go_wp2_with (first
              | (at_builtin; refine wpl_appV (f := nU) (fun _ => rfl) (.int .u64 0) rfl rfl _ _ 94 rfl w1.heap.size 47 8 Tryz.underlying94 Tryz.infoU64 _ (I.take j) rfl (hown.alloc _) (wr.heap.size + 1) _ [x] rfl (RdV.one nU _ x _ _ (by decide) (by decide)) (by unfold maxLen; simp only [List.length_cons, List.length_nil]; omega) (by simp only [List.length_cons, List.length_nil]; omega) (by simp; omega) ?_; intro v' w' hown' hb' _))
            go_roundw
            case rel => exact ⟨j + 1, by go_num, hjl, by rw [HTS.out]; exact hown', (hbel.alloc hszr _).trans hb'⟩
            case measure => simp [intOf] <;> omega
          · have hjn : I.take j = I := List.take_of_length_le (by omega)
            have hjn2 : n2 ≤ j := by omega
            have hrd := hown.read
            rw [hjn] at hrd
            obtain ⟨A5, k5, n5, rfl, -, -, -⟩ := hown.read.bds
            have HPA := Lib.hid (HPK _ _ (RdV.toN hrd)).out
            clear hjn hrd hown hn HPK
            go_wp2_with (first
              | (go_at_call 61; (with_reducible refine (HWM.out _).mono ?_); rintro e w' ⟨rfl, rfl⟩)
              | (go_at_call 60; (with_reducible refine HPA.out.mono ?_); rintro e w8 ⟨rfl, hb8⟩))
            go_ret
            exact RetB.mk (by rw [← HT.out, ← HF.out]; rfl) (bel_trans (hb1.trans (hbel.mono hb1.size)) hb8)
end Go.Proofs.YtbolbbngncnecaaGreat

/- The walks over the reference: DecodeDict. -/
namespace Go.VB
open Go.RowKit
theorem OwnV.other {α β : Type} {f : α → Value} {h : β → Value} {e e' : TypeId} {w : World} {base base' g c : Nat} {v : Value} {l : List α} {m : List β} (h1 : OwnV f e w base v l) (h2 : RowV h e' w base' g c m) (hg : g < base) (j : Nat) (x : β) :
    OwnV f e (w.setCell ⟨g, j, none⟩ (h x)) base v l := by
  refine World.ownsRow.kept h1 (h2.grown j x) ?_
  rcases hv : v.ownBlock with _ | b
  · exact .inl rfl
  · have := h1.lt b hv
    exact .inr (fun e => by have := Option.some.inj e; omega)
theorem RowV.belowB {α : Type} {f : α → Value} {e : TypeId} {w w' : World} {base g c B : Nat} {l : List α} (h : RowV f e w base g c l) (hb : Below B w w') (hg : g < B) : RowV f e w' base g c l := by
  have h' : w.ownsRow base e 1 (.slice (some ⟨g, 0, none⟩) l.length c) l.length (l.map f) := h
  refine ⟨h'.1, ?_⟩
  rcases h'.2 with ⟨hv, hn⟩ | ⟨g', cap, cur, hv, h1, h2, h3⟩
  · exact .inl ⟨hv, hn⟩
  · cases hv
    exact .inr ⟨g, c, cur, rfl, h1, (hb.block g hg).trans h2, h3⟩
end Go.VB
namespace Go.DI
open Go.RowKit Go.VB Go.BP Go.VarM
theorem decD_0long {s : ByteArray} {b p : Nat} (hg : getR s 0 = (0, (b : Int), 0)) (hw : dws s 0 (b : Nat) [] = ([], (p : Int), 0)) (hp : p < s.size) : decD s ((0 : Nat) : Int) = ([], 2) := by
  refine decD_u (by decide) hg ⟨Nat.le_refl _, fun _ => rfl⟩ hw (u := []) ?_ (by decide)
  refine unpackR_long (n := 0) (w := wdt 0) (by decide) (by rw [show wdt 0 = 0 from wid_zero]; decide) ?_
  have : (s.extract p s.size).size = s.size - p := by rw [ByteArray.size_extract]; omega
  rw [this]; omega
theorem decD_0ok {s : ByteArray} {b p : Nat} (hg : getR s 0 = (0, (b : Int), 0)) (hw : dws s 0 (b : Nat) [] = ([], (p : Int), 0)) (hp : s.size ≤ p) : decD s ((0 : Nat) : Int) = ([], 0) := by
  have hx : (s.extract p s.size).size = 0 := by rw [ByteArray.size_extract]; omega
  have h0 : num (s.extract p s.size) < 2 ^ (0 * wdt 0) := by
    have := num_lt (s.extract p s.size)
    rw [hx] at this
    simpa using this
  rw [decD_l (by decide) hg ⟨Nat.le_refl _, fun _ => rfl⟩ hw (u := []) (by
    rw [unpackR_ok (by decide) (by rw [show wdt 0 = 0 from wid_zero]; decide) (by rw [hx, Nat.zero_mul]) h0]; rfl)]
  rw [lkR_ok (by simp) (by simp)]; rfl
end Go.DI
namespace Go.Proofs.YtbolbbngncnecaaGreat
open Go.RowKit Go.VB Go.VarM Go.BP Go.RL Go.DI
section
variable (s : ByteArray) (hs : s.size ≤ 140737488351232)
include hs
set_option maxRecDepth 100000 in
set_option maxHeartbeats 8000000 in
theorem rdictdec_in (n k b : Nat) (w : World) (hn : n ≤ 4096) (hg : getR s 0 = (k, (b : Int), 0)) (hbs : b ≤ s.size) (hk : k ≤ n ∧ (k = 0 → n = 0)) (b0 : Bool) (hd0 : ((k : Int) == 0) = b0) (hd1 : b0 = true → n ≤ 0) :
    Calls Tryz.prog 95 #[.string s, .int .i64 (n : Int)] w (RetVE Value.string 9 (decD s (n : Nat)).1 (decD s (n : Nat)).2 w) := by
  have hmx : s.size ≤ maxLen := by unfold maxLen; omega
  have HG := fun w => Lib.hid (rget_ok s 0 w hmx hg)
  have hk1 := hk.1
  have h1 := fun w => rsz_any n w
  rw [decide_eq_true (by omega)] at h1
  have HSZ := fun w => Lib.hid (h1 w); clear h1
  generalize hD : dws s k (b : Nat) [] = D
  have HD := Lib.hid hD
  have HK := Lib.hid hk; have HGR := Lib.hid hg
  clear hD hk hg
  cases b0 with
  | true =>
    have hn0 : n = 0 := by have := hd1 rfl; omega
    have hk0 : k = 0 := by omega
    subst hn0
    subst hk0
    clear hd1 hd0 HK hk1 HD
    have HL1 := Lib.hid (fun h => decD_0long HGR.out (p := b) rfl h); have HL2 := Lib.hid (fun h => decD_0ok HGR.out (p := b) rfl h)
    have HSZ0 := fun w => Lib.hid (show Calls Tryz.prog 92 #[.int .i64 0] w (Ret (.bool true) w) from (HSZ w).out)
    have HG0 := fun w => Lib.hid (show Calls Tryz.prog 63 #[.string s, .int .i64 0] w (Ret (.tuple #[.int .u64 0, .int .i64 (b : Int), .int .i64 0]) w) from (HG w).out)
    clear HSZ HG
    change Calls Tryz.prog 95 #[.string s, .int .i64 0] w _
    generalize decD s ((0 : Nat) : Int) = R at *
    by_cases hbl : b < s.size
    · have hR := Lib.hid (HL1.out hbl)
      go_enter Tryz.func95, Tryz.ntmps95
      go_wp2_with (first
        | (go_at_call 92; (with_reducible refine (HSZ0 _).out.mono ?_); rintro e w' ⟨rfl, rfl⟩)
        | (go_at_call 63; (with_reducible refine (HG0 _).out.mono ?_); rintro e w' ⟨rfl, rfl⟩))
      refine wp_loop_rounds 1 ?_
      rw [rounds_succ]
      go_wp2
      go_ret2
      rw [hR.out]
      exact RetVE.mk rfl (OwnV.nil _ _ _ _) (Below.refl _ _)
    · have hR := Lib.hid (HL2.out (by omega))
      go_enter Tryz.func95, Tryz.ntmps95
      go_wp2_with (first
        | (go_at_call 92; (with_reducible refine (HSZ0 _).out.mono ?_); rintro e w' ⟨rfl, rfl⟩)
        | (go_at_call 63; (with_reducible refine (HG0 _).out.mono ?_); rintro e w' ⟨rfl, rfl⟩))
      refine wp_loop_rounds 1 ?_
      rw [rounds_succ]
      go_wp2
      go_ret2
      rw [hR.out]
      exact RetVE.mk rfl (OwnV.nil _ _ _ _) (Below.refl _ _)
  | false =>
    have hdk : decide (n < k) = false := decide_eq_false (by omega)
    have hk0 : 0 < k := by have := beq_eq_false_iff_ne.1 hd0; omega
    clear hd1
    go_enter Tryz.func95, Tryz.ntmps95
    go_wp2_with (first
      | (go_at_call 92; (with_reducible refine (HSZ _).out.mono ?_); rintro e w' ⟨rfl, rfl⟩)
      | (go_at_call 63; (with_reducible refine (HG _).out.mono ?_); rintro e w' ⟨rfl, rfl⟩))
    clear HSZ HG
    go_loopw [7, 9, 10] (fun a ws i wr => ∃ (p j : Nat) (ls : List ByteArray), a = .int .i64 p ∧ i = .int .i64 j ∧ j ≤ k ∧ p ≤ s.size ∧ OwnV Value.string 9 wr w.heap.size ws ls ∧ ls.length = j ∧ dws s (k - j) (p : Nat) ls = D ∧ Below w.heap.size w wr) (fun _ _ i _ => k - (intOf i).toNat)
    case atStart => exact ⟨b, 0, [], rfl, rfl, Nat.zero_le _, hbs, OwnV.nil _ _ _ _, rfl, HD.out, Below.refl _ _⟩
    case round =>
      obtain ⟨p, j, ls, rfl, rfl, hj, hp, hown, hlen, hd, hbel⟩ := hrel
      have HL := Lib.hid hlen
      have hl4 : ls.length ≤ 4096 := by omega
      have hjl : j ≤ ls.length := by omega
      have hjl2 : ls.length ≤ j := by omega
      clear hlen
      obtain ⟨A, cc, _, rfl, rfl, hc1, hc2⟩ := hown.read.bds
      have hrd := hown.read
      have hszr := hbel.size
      by_cases hlt : j < k
      · rw [show k - j = (k - (j + 1)) + 1 from by omega] at hd
        obtain ⟨a, b', c1, hgg⟩ : ∃ a b c, getR s (p : Nat) = (a, b, c) := ⟨_, _, _, rfl⟩
        have HGG := fun w => Lib.hid (rget_is s p w hmx hgg)
        by_cases hc0 : c1 = 0
        · subst hc0
          replace HGG := fun w => Lib.hid (rget_ok s p w hmx hgg)
          obtain ⟨k1, m1, e1, e2, e3, e4, e5, e6⟩ := getR_zero hgg
          obtain ⟨b', rfl⟩ : ∃ b'' : Nat, b' = b'' := ⟨k1 + m1, by omega⟩
          have hb' : b' ≤ s.size := by omega
          have ha64 : (a : Int) ≤ 18446744073709551615 := by omega
          clear e1 e2 e3 e4 e5 e6
          obtain ⟨m, hm⟩ : ∃ m : Nat, (s.size : Int) - (b' : Int) = m := ⟨s.size - b', by omega⟩
          have hmb : (m : Int) ≤ 140737488351232 := by omega
          by_cases hfit : b' + a ≤ s.size
          · have hgw := getW_ok hgg hfit
            obtain ⟨q1, hq1⟩ : ∃ q : Nat, b' + a = q := ⟨_, rfl⟩
            have hq2 : (b' : Int) + (a : Int) = (q1 : Int) := by omega
            have hq3 : b' ≤ q1 := by omega
            have hq4 : q1 ≤ s.size := by omega
            have ham : (a : Int) ≤ (m : Int) := by omega
            have hai : (a : Int) ≤ 9223372036854775807 := by omega
            rw [hq1] at hgw
            clear hq1 hgg hfit
            rcases Nat.eq_zero_or_pos ls.length with h0 | h0
            · rw [dws_go hgw (fun y hy => by rw [List.eq_nil_of_length_eq_zero h0] at hy; simp at hy)] at hd
              have HD := Lib.hid hd
              have hl0 : ls.length ≤ 0 := by omega
              have hj0 : j ≤ 0 := by omega
              clear hd hgw hrd h0
              go_wp2_with (first
                | (go_at_call 63; (with_reducible refine (HGG _).out.mono ?_); rintro e w' ⟨rfl, rfl⟩)
                | (at_builtin; refine wpl_appV (f := Value.string) (fun _ => rfl) (.string ⟨#[]⟩) rfl rfl _ _ 73 rfl w.heap.size 9 16 Tryz.underlying73 Tryz.infStr (.slice A ls.length cc) ls rfl (hown.alloc _) (wr.heap.size + 1) _ [s.extract b' q1] rfl (RdV.one _ _ _ _ _ (by decide) (by decide)) (by unfold maxLen; simp; omega) (by simp; omega) (by simp; omega) ?_; intro v' w' hown' hb' _))
              go_roundw
              case rel => exact ⟨q1, j + 1, _, rfl, by go_num, hlt, hq4, hown', by rw [List.length_append, HL.out]; rfl, HD.out, (hbel.alloc hszr _).trans hb'⟩
              case measure => simp [intOf] <;> omega
            · obtain ⟨y, hy⟩ : ∃ y, ls[ls.length - 1]? = some y := ⟨_, List.getElem?_eq_getElem (by omega)⟩
              obtain ⟨ad, rfl, _, hgx⟩ := hrd.at hy
              rw [← List.getLast?_eq_getElem?] at hy
              clear hrd
              obtain ⟨r, hr⟩ : ∃ r : Nat, (j : Int) - 1 = r := ⟨j - 1, by omega⟩
              have hrl : ls.length - 1 = r := by omega
              rw [hrl] at hgx
              have hrn : r < ls.length := by omega
              have hj1 : 0 < j := by omega
              clear hrl
              cases hyx : lts y (s.extract b' q1) with
              | true =>
                rw [dws_go hgw (fun z hz => by rw [hy] at hz; cases hz; exact hyx)] at hd
                have HD := Lib.hid hd
                have hd1 := le_false hyx
                clear hd hgw hy hyx
                go_wp2_with (first
                  | (go_at_call 63; (with_reducible refine (HGG _).out.mono ?_); rintro e w' ⟨rfl, rfl⟩)
                  | (at_builtin; refine wpl_appV (f := Value.string) (fun _ => rfl) (.string ⟨#[]⟩) rfl rfl _ _ 73 rfl w.heap.size 9 16 Tryz.underlying73 Tryz.infStr (.slice (some ad) ls.length cc) ls rfl (hown.alloc _) (wr.heap.size + 1) _ [s.extract b' q1] rfl (RdV.one _ _ _ _ _ (by decide) (by decide)) (by unfold maxLen; simp; omega) (by simp; omega) (by simp; omega) ?_; intro v' w' hown' hb' _))
                go_roundw
                case rel => exact ⟨q1, j + 1, _, rfl, by go_num, hlt, hq4, hown', by rw [List.length_append, HL.out]; rfl, HD.out, (hbel.alloc hszr _).trans hb'⟩
                case measure => simp [intOf] <;> omega
              | false =>
                rw [dws_f hgw hy hyx] at hd
                have HR := Lib.hid (decD_w hn HGR.out HK.out (HD.out.trans hd.symm) (by decide))
                have hd1 := le_true hyx
                clear hd hgw hy hyx
                go_wp2_with (first | (go_at_call 63; (with_reducible refine (HGG _).out.mono ?_); rintro e w' ⟨rfl, rfl⟩))
                go_ret2
                rw [HR.out]
                exact RetVE.mk rfl (OwnV.nil _ _ _ _) hbel
          · rw [dws_e (getW_short hgg (by omega)) (by decide)] at hd
            have HR := Lib.hid (decD_w hn HGR.out HK.out (HD.out.trans hd.symm) (by decide))
            have ham : (m : Int) < (a : Int) := by omega
            clear hd hgg hfit hrd
            go_wp2_with (first | (go_at_call 63; (with_reducible refine (HGG _).out.mono ?_); rintro e w' ⟨rfl, rfl⟩))
            go_ret2
            rw [HR.out]
            exact RetVE.mk rfl (OwnV.nil _ _ _ _) hbel
        · rw [dws_e (getW_e hgg hc0) hc0] at hd
          have HR := Lib.hid (decD_w hn HGR.out HK.out (HD.out.trans hd.symm) hc0)
          have hdc : ((c1 : Int) != 0) = true := by simp; omega
          clear hd hgg hc0 hrd
          go_wp2_with (first | (go_at_call 63; (with_reducible refine (HGG _).out.mono ?_); rintro e w' ⟨rfl, rfl⟩))
          go_ret2
          rw [HR.out]
          exact RetVE.mk rfl (OwnV.nil _ _ _ _) hbel
      · rw [show k - j = 0 from by omega, dws_done] at hd
        have HDW := Lib.hid (HD.out.trans hd.symm)
        have hlk : ls.length = k := by omega
        have HLK := Lib.hid hlk
        clear hd hlk
        have hn0 : 0 < n := by omega
        obtain ⟨u, c3, hu⟩ : ∃ u c, unpackR (s.extract p s.size) n (wdt k : Nat) = (u, c) := ⟨_, _, rfl⟩
        have HUN := fun w => Lib.hid (runpack_eq (s.extract p s.size) n (wdt k : Nat) w hu)
        obtain ⟨m, hm⟩ : ∃ m, k = m + 1 := ⟨k - 1, by omega⟩
        have HW := fun w => Lib.hid (show Calls Tryz.prog 61 #[.int .u64 (m : Int)] w (Ret (.int .i64 (wdt k : Nat)) w) by
          have := rwidth_any m w (by omega)
          rwa [show wid m = wdt k by unfold wdt; rw [hm]; rfl] at this)
        have hm' : (k : Int) - 1 = (m : Int) := by omega
        have hm4 : m ≤ 4096 := by omega
        have hwm : IntKind.u64.wrap (m : Int) = (m : Int) := by rw [IntKind.wrap_u64]; omega
        have hwd := wdt_le (k := k) (by omega)
        by_cases hc3 : c3 = 0
        · subst hc3
          obtain ⟨u1, u2, _⟩ := unpack_zero hn (show wdt k ≤ 64 by omega) hu
          have hR := Lib.hid (decD_l hn HGR.out HK.out HDW.out hu)
          have hul : u.length ≤ 4096 := by omega
          have HU := Lib.hid (fun x hx => Nat.lt_of_lt_of_le (u2 x hx) (Nat.pow_le_pow_right (by decide) (by omega : wdt k ≤ 64)))
          clear u1 u2 hu hm hwd
          generalize wdt k = d at *
          go_wp2_with fail
          go_region_with (first
            | (go_at_call 61; (with_reducible refine (HW _).out.mono ?_); rintro e w' ⟨rfl, rfl⟩)
            | (go_at_call 118; (with_reducible refine (HUN _).out.mono ?_); rintro e w5 ⟨v5, rfl, hown5, hb5⟩))
          have hr5 : RdV Value.string w5 w5.heap.size (.slice A ls.length cc) ls := (show RdV Value.string wr.drew wr.drew.heap.size (.slice A ls.length cc) ls from hrd).step hb5
          have hru := RdN.toU hown5.read
          obtain ⟨A5, k5, _, rfl, rfl, hx1, hx2⟩ := hru.bds
          have hb15 := bel_trans hbel.drew hb5
          have hmk := run_makeV (P := Tryz.prog) (t := 45) (z := .bool false) rfl Tryz.underlying45 Tryz.infBl ls.length (by omega) (by unfold maxLen; omega) w5
          have hrow := RowV.made Value.bool false 4 w5 w5.heap.size ls.length (Nat.le_refl _) (by unfold maxLen; omega)
          have hb6 := (Below.refl w5.heap.size w5).alloc (Nat.le_refl _) (.cells (madeCells #[.bool false] ls.length) 4)
          have hsz6 : w5.heap.size < (w5.alloc (.cells (madeCells #[.bool false] ls.length) 4)).heap.size := by simp
          have HR5 := Lib.hid hr5; have HRU := Lib.hid hru
          clear hr5 hru hown5 hown hrd hb5 HW HUN hbel
          generalize w5.alloc (.cells (madeCells #[.bool false] ls.length) 4) = w6 at hmk hrow hb6 hsz6
          go_wp2_with fail
          clear hmk
          have hsz5 := hb15.size
          go_loopw [17, 120] (fun v i wq => ∃ (j : Nat) (L : List ByteArray) (U : List Bool), i = .int .i64 j ∧ j ≤ u.length ∧ OwnV Value.string 9 wq (w5.heap.size + 1) v L ∧ L = (u.map fun i => ls.getD i ⟨#[]⟩).take j ∧ RowV Value.bool 4 wq w5.heap.size w5.heap.size ls.length U ∧ UOk ls.length u j U ∧ (∀ i ∈ u.take j, i < ls.length) ∧ Below w5.heap.size w5 wq ∧ w5.heap.size < wq.heap.size) (fun _ i _ => u.length - (intOf i).toNat)
          case atStart => exact ⟨0, [], _, rfl, Nat.zero_le _, OwnV.nil _ _ _ _, by rw [List.take_zero], hrow, UOk.start _ _, by simp, hb6, hsz6⟩
          case round =>
            clear hrow hb6 hsz6
            obtain ⟨jj, L, U, rfl, hjj, hout, hL, hrow, hU, hlt2, hbelq, hszq⟩ := hrel
            have HLL := Lib.hid hL; have HUO := Lib.hid hU; have HLT := Lib.hid hlt2
            have hLl : L.length ≤ jj := by rw [hL, List.length_take]; omega
            clear hL hU hlt2
            by_cases hjl2 : jj < u.length
            · have hx : u[jj]? = some u[jj] := List.getElem?_eq_getElem hjl2
              obtain ⟨ad, rfl, _, hgx0⟩ := (HRU.out.below hbelq).at hx
              have hx64 := HU.out _ (List.mem_of_getElem? hx)
              have HX := Lib.hid hx; have HXM := Lib.hid (List.mem_of_getElem? hx)
              clear hx
              generalize u[jj] = x at hgx0 hx64 HX HXM
              have hgx : wr.cell? (ad.add jj) = some (.int .u64 (x : Int)) := hgx0
              clear hgx0
              by_cases hxl : x < ls.length
              · have hy : ls[x]? = some ls[x] := List.getElem?_eq_getElem hxl
                have hUx : U[x]? = some (U[x]'(by rw [HUO.out.1]; exact hxl)) := List.getElem?_eq_getElem _
                have hc2 := hrow.cell x _ hUx
                have hf2 := hrow.frozen x
                generalize U[x]'_ = ux at hc2 hUx
                have hst := hrow.store x true
                have hout2 := hout.other hrow (Nat.lt_succ_self _) x true
                have hbel2 := hbelq.setCell (p := ⟨w5.heap.size, x, none⟩) (Nat.le_refl _) (.bool true)
                obtain ⟨bd, rfl, _, hgy⟩ := (HR5.out.below hbel2).at hy
                have htk := Go.DI.take_snoc (l := u.map fun i => ls.getD i ⟨#[]⟩) (j := jj) (s := ls[x]) (by rw [List.getElem?_map, HX.out, Option.map_some, List.getD_eq_getElem?_getD, hy]; rfl)
                have hltx : ∀ i ∈ u.take (jj + 1), i < ls.length := by
                  intro i hi
                  rw [Go.DI.take_snoc HX.out] at hi
                  rcases List.mem_append.1 hi with hi | hi
                  · exact HLT.out i hi
                  · rw [List.mem_singleton.1 hi]; exact hxl
                have hxk : x < k := by have := HLK.out; omega
                have hszs : (wr.setCell ⟨w5.heap.size, x, none⟩ (.bool true)).heap.size = wr.heap.size := World.size_setCell _ _ _
                have HTK := Lib.hid htk; have HLTX := Lib.hid hltx; have HUS := Lib.hid (HUO.out.step HX.out hxl)
                have HST := Lib.hid hst; have HOUT := Lib.hid hout2; have HB2 := Lib.hid hbel2; have HSZS := Lib.hid hszs
                clear hy hUx hst hout2 hbel2 htk hltx hszs
                generalize ls[x] = y at hgy HTK
                go_wp2_with (first
                  | (at_builtin; refine wpl_appV (f := Value.string) (fun _ => rfl) (.string ⟨#[]⟩) rfl rfl _ _ 73 rfl (w5.heap.size + 1) 9 16 Tryz.underlying73 Tryz.infStr _ L rfl (HOUT.out.alloc _) (wr.heap.size + 1) _ [y] rfl (by have := RdV.one Value.string (wr.setCell ⟨w5.heap.size, x, none⟩ (.bool true)) y 1 9 (by decide) (by decide); rw [HSZS.out] at this; exact this) (by unfold maxLen; simp only [List.length_cons, List.length_nil]; omega) (by simp only [List.length_cons, List.length_nil]; omega) (by simp; omega) ?_; intro v' w' hown' hb' _))
                go_roundw
                case rel => exact ⟨jj + 1, _, _, by go_num, hjl2, hown', by rw [HTK.out, ← HLL.out], (HST.out.alloc _).belowB hb' (by omega), HUS.out, HLTX.out, (HB2.out.alloc (by rw [HSZS.out]; omega) _).trans (hb'.mono (by omega)), by have h1 := hb'.size; have h2 := HSZS.out; simp at h1; omega⟩
                case measure => simp [intOf] <;> omega
              · have h := hR.out
                rw [lkR_big HXM.out hxl] at h
                have HH := Lib.hid h
                have hxk : k ≤ x := by have := HLK.out; omega
                clear h
                go_wp2_with fail
                go_ret2
                rw [HH.out]
                exact RetVE.mk rfl (OwnV.nil _ _ _ _) (hb15.trans (hbelq.mono hsz5))
            · have hall : ∀ i ∈ u, i < ls.length := by
                have := HLT.out
                rwa [List.take_of_length_le (by omega)] at this
              have hfin : L = u.map fun i => ls.getD i ⟨#[]⟩ := by rw [HLL.out]; exact List.take_of_length_le (by rw [List.length_map]; omega)
              have hU2 : ∀ m, m < ls.length → U[m]? = some (decide (m ∈ u)) := by
                have := HUO.out.2
                rwa [List.take_of_length_le (by omega)] at this
              have hUn : ∀ m, m < ls.length → m ∉ u → decD s (n : Nat) = ([], 2) := fun m hm hmu => hR.out.trans (lkR_un hm hmu)
              have hUa : (∀ m, m < ls.length → m ∈ u) → decD s (n : Nat) = (L, 0) := fun h => by rw [hR.out, lkR_ok hall h, hfin]
              have hbw := hb15.trans (hbelq.mono hsz5)
              have HUN := Lib.hid hUn; have HUA := Lib.hid hUa; have HU2 := Lib.hid hU2
              clear hall hfin hU2 hUn hUa
              obtain ⟨A6, k6, _, rfl, rfl, _, _⟩ := hout.read.bds
              have HOUT := Lib.hid (hout.lower (by omega : w.heap.size ≤ w5.heap.size + 1))
              have hUl := HUO.out.1
              clear hout
              go_wp2_with fail
              go_loopw [140] (fun i wq => ∃ j : Nat, i = .int .i64 j ∧ j ≤ ls.length ∧ (∀ m, m < j → m ∈ u) ∧ wq = wr) (fun i _ => ls.length - (intOf i).toNat)
              case atStart => exact ⟨0, rfl, Nat.zero_le _, by omega, rfl⟩
              case round =>
                obtain ⟨q, rfl, hq, hmem, rfl⟩ := hrel
                have HMEM := Lib.hid hmem
                clear hmem
                by_cases hql : q < ls.length
                · have hUq := HU2.out q hql
                  have hcq := hrow.cell q _ hUq
                  by_cases hqu : q ∈ u
                  · rw [decide_eq_true hqu] at hcq
                    have HM2 := Lib.hid (show ∀ m, m < q + 1 → m ∈ u from fun m hm => by
                      rcases Nat.lt_or_ge m q with h | h
                      · exact HMEM.out m h
                      · have : m = q := by omega
                        subst this; exact hqu)
                    clear hUq hqu
                    go_wp2_with fail
                    go_roundw
                    case rel => exact ⟨q + 1, by go_num, hql, HM2.out, trivial⟩
                    case measure => simp [intOf] <;> omega
                  · rw [decide_eq_false hqu] at hcq
                    have HR2 := Lib.hid (HUN.out q hql hqu)
                    clear hUq hqu
                    go_wp2_with fail
                    go_ret2
                    rw [HR2.out]
                    exact RetVE.mk rfl (OwnV.nil _ _ _ _) hbw
                · have HR2 := Lib.hid (HUA.out (fun m hm => HMEM.out m (by omega)))
                  go_wp2_with fail
                  go_ret2
                  rw [HR2.out]
                  exact RetVE.mk rfl HOUT.out hbw
        · have HR := Lib.hid (decD_u hn HGR.out HK.out HDW.out hu hc3)
          have hdc : ((c3 : Int) != 0) = true := by simp; omega
          clear hu hm hwd hc3
          generalize wdt k = d at *
          go_wp2_with fail
          go_region_with (first
            | (go_at_call 61; (with_reducible refine (HW _).out.mono ?_); rintro e w' ⟨rfl, rfl⟩)
            | (go_at_call 118; (with_reducible refine (HUN _).out.mono ?_); rintro e w5 ⟨v5, rfl, hown5, hb5⟩))
          all_goals go_wp2_with fail
          all_goals go_ret2
          all_goals rw [HR.out]
          all_goals exact RetVE.mk rfl (OwnV.nil _ _ _ _) (bel_trans hbel.drew hb5)
end
end Go.Proofs.YtbolbbngncnecaaGreat
