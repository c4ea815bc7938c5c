/- The walks over package dict: one word, the words, the look-up, Decode. -/
import Derived.Test.YtikokmafofbofaaDctW4
namespace Go.VB
open Go.RowKit
/-- It returns a list of its own, an index and a code; what was there is as it was. -/
def RetV3 {α : Type} (f : α → Value) (e : TypeId) (l : List α) (q : Int) (c : Nat) (w : World) : Ending → World → Prop := fun en w' =>
  ∃ v, en = .returned (.tuple #[v, .int .i64 q, .int .i64 (c : Int)]) ∧ OwnV f e w' w.heap.size v l ∧ Below w.heap.size w w'
theorem RetV3.mk {α : Type} {f : α → Value} {e : TypeId} {l : List α} {q : Int} {c : Nat} {w w' : World} {x v : Value} (hx : x = .tuple #[v, .int .i64 q, .int .i64 (c : Int)]) (ho : OwnV f e w' w.heap.size v l) (hb : Below w.heap.size w w') : RetV3 f e l q c w (.returned x) w' := ⟨v, by rw [hx], ho, hb⟩
theorem RowV.other {α β : Type} {f : α → Value} {h : β → Value} {e e' : TypeId} {w : World} {base base' g g' c c' : Nat} {l : List α} {m : List β} (h1 : RowV f e w base g c l) (h2 : RowV h e' w base' g' c' m) (hne : g ≠ g') (j : Nat) (x : β) :
    RowV f e (w.setCell ⟨g', j, none⟩ (h x)) base g c l :=
  World.ownsRow.kept h1 (h2.grown j x) (.inr (by simp only [Value.ownBlock]; exact fun e => hne (Option.some.inj e)))
end Go.VB
namespace Go.DI
open Go.RowKit Go.VB
theorem count_off {U : List Bool} {i : Nat} (h : U[i]? = some false) : (U.set i true).count false + 1 = U.count false := by
  obtain ⟨hi, he⟩ := List.getElem?_eq_some_iff.1 h
  have hm : U[i] ∈ U := List.getElem_mem hi
  have hp : 0 < U.count false := List.count_pos_iff.2 (by rw [← he]; exact hm)
  rw [List.count_set hi]
  simp [he]
  omega
/-- Which words are used by the first j indices. -/
def UOk (n : Nat) (u : List Nat) (j : Nat) (U : List Bool) : Prop := U.length = n ∧ ∀ m, m < n → U[m]? = some (decide (m ∈ u.take j))
theorem UOk.start (n : Nat) (u : List Nat) : UOk n u 0 (List.replicate n false) := ⟨by simp, fun m hm => by simp [hm]⟩
theorem UOk.step {n : Nat} {u : List Nat} {j x : Nat} {U : List Bool} (h : UOk n u j U) (hx : u[j]? = some x) (hn : x < n) : UOk n u (j + 1) (U.set x true) := by
  refine ⟨by rw [List.length_set]; exact h.1, fun m hm => ?_⟩
  rw [take_snoc hx]
  by_cases he : m = x
  · subst he
    rw [List.getElem?_set_self (by rw [h.1]; exact hm)]; simp
  · rw [List.getElem?_set_ne (fun e => he e.symm), h.2 m hm]; simp [he]
theorem UOk.same {n : Nat} {u : List Nat} {j x : Nat} {U : List Bool} (h : UOk n u j U) (hx : u[j]? = some x) (hn : x < n) (hu : U[x]? = some true) : UOk n u (j + 1) U := by
  have h1 := h.step hx hn
  have he : U.set x true = U := by
    obtain ⟨hi, e⟩ := List.getElem?_eq_some_iff.1 hu
    rw [← e, List.set_getElem_self]
  rwa [he] at h1
theorem UOk.none {n : Nat} {u : List Nat} {j : Nat} {U : List Bool} (h : UOk n u j U) (hj : u.length ≤ j) (h0 : U.count false = 0) : ∀ m, m < n → m ∈ u := by
  intro m hm
  have h1 := h.2 m hm
  rw [List.take_of_length_le hj] at h1
  by_cases hmu : m ∈ u
  · exact hmu
  · rw [decide_eq_false hmu] at h1
    have := List.count_pos_iff.2 (List.mem_of_getElem? h1)
    omega
theorem UOk.some {n : Nat} {u : List Nat} {j : Nat} {U : List Bool} (h : UOk n u j U) (hj : u.length ≤ j) (h0 : 0 < U.count false) : ∃ m, m < n ∧ m ∉ u := by
  obtain ⟨m, hm, he⟩ := List.mem_iff_getElem.1 (List.count_pos_iff.1 h0)
  have hm' : m < n := by rw [← h.1]; exact hm
  refine ⟨m, hm', fun hmu => ?_⟩
  have h1 := h.2 m hm'
  rw [List.take_of_length_le hj, decide_eq_true hmu, List.getElem?_eq_getElem hm, he] at h1
  cases h1
end Go.DI
namespace Go.Proofs.Ytikokmafofbofaa
open Go.RowKit Go.VB Go.VarM Go.BP Go.RL Go.DI
theorem le_true {x y : ByteArray} (h : lts y x = false) : (Go.Op.bytesLess x.toList y.toList || x.toList == y.toList) = true := by
  by_cases e : x = y
  · rw [text_eq e, Bool.or_true]
  · rw [less_at (lts_not h (fun e' => e e'.symm)), Bool.true_or]
theorem le_false {x y : ByteArray} (h : lts y x = true) : (Go.Op.bytesLess x.toList y.toList || x.toList == y.toList) = false := by
  rw [less_at (lts_asym h), text_ne (fun e => lts_ne h e.symm)]; rfl
theorem Try.infBl : (Try.prog.info? 4).map (fun i => (i.zero, i.size, i.bytes)) = some (some (.bool false), 1, 1) := by kernel_rfl
theorem vget_is (s : ByteArray) (i : Int) (w : World) (hs : s.size ≤ maxLen) {a : Nat} {b : Int} {c : Nat} (h : getR s i = (a, b, c)) :
    Calls Try.prog 32 #[.string s, .int .i64 i] w (Ret (.tuple #[.int .u64 (a : Int), .int .i64 b, .int .i64 (c : Int)]) w) := by
  have := vget_any s i w hs
  rw [h] at this
  exact this
theorem vget_ok (s : ByteArray) (i : Int) (w : World) (hs : s.size ≤ maxLen) {a : Nat} {b : Int} (h : getR s i = (a, b, 0)) :
    Calls Try.prog 32 #[.string s, .int .i64 i] w (Ret (.tuple #[.int .u64 (a : Int), .int .i64 b, .int .i64 0]) w) := vget_is s i w hs h
section
variable (s : ByteArray) (p : Int) (w : World) (hs : s.size ≤ 140737488351232)
include hs
set_option maxHeartbeats 400000 in
theorem getword_e {a : Nat} {b : Int} {c : Nat} (hg : getR s p = (a, b, c)) (hc : c ≠ 0) :
    Calls Try.prog 45 #[.string s, .int .i64 p] w (Ret (.tuple #[.string ⟨#[]⟩, .int .i64 0, .int .i64 (c : Int)]) w) := by
  have HG := Lib.hid (vget_is s p w (by unfold maxLen; omega) hg)
  have hd : ((c : Int) != 0) = true := by simp; omega
  clear hg hc
  go_enter Try.func45, Try.ntmps45
  go_wp2_with (go_at_call 32; (with_reducible refine HG.out.mono ?_); rintro e w' ⟨rfl, rfl⟩)
  go_ret3
  exact Ret.mk rfl
set_option maxHeartbeats 400000 in
theorem getword_short {a b : Nat} (hg : getR s p = (a, (b : Int), 0)) (hb : b ≤ s.size) (h : s.size < b + a) :
    Calls Try.prog 45 #[.string s, .int .i64 p] w (Ret (.tuple #[.string ⟨#[]⟩, .int .i64 0, .int .i64 10]) w) := by
  have HG := Lib.hid (vget_ok s p w (by unfold maxLen; omega) hg)
  obtain ⟨m, hm⟩ : ∃ m : Nat, (s.size : Int) - (b : Int) = m := ⟨s.size - b, by omega⟩
  have hma : (m : Int) < (a : Int) := by omega
  have hmb : (m : Int) ≤ 140737488351232 := by omega
  clear hg
  go_enter Try.func45, Try.ntmps45
  go_wp2_with (go_at_call 32; (with_reducible refine HG.out.mono ?_); rintro e w' ⟨rfl, rfl⟩)
  go_ret3
  exact Ret.mk rfl
set_option maxHeartbeats 400000 in
theorem getword_ok {a b : Nat} (hg : getR s p = (a, (b : Int), 0)) (h : b + a ≤ s.size) :
    Calls Try.prog 45 #[.string s, .int .i64 p] w (Ret (.tuple #[.string (s.extract b (b + a)), .int .i64 ((b + a : Nat) : Int), .int .i64 0]) w) := by
  have HG := Lib.hid (vget_ok s p w (by unfold maxLen; omega) hg)
  obtain ⟨m, hm⟩ : ∃ m : Nat, (s.size : Int) - (b : Int) = m := ⟨s.size - b, by omega⟩
  have hma : (a : Int) ≤ (m : Int) := by omega
  have hmb : (m : Int) ≤ 140737488351232 := by omega
  obtain ⟨n, hn⟩ : ∃ n : Nat, b + a = n := ⟨_, rfl⟩
  have hn' : (b : Int) + (a : Int) = (n : Int) := by omega
  have hnb : b ≤ n := by omega
  have hns : n ≤ s.size := by omega
  rw [hn]
  clear hg hn h
  go_enter Try.func45, Try.ntmps45
  go_wp2_with (go_at_call 32; (with_reducible refine HG.out.mono ?_); rintro e w' ⟨rfl, rfl⟩)
  go_ret3
  exact Ret.mk rfl
theorem getword_any {x : ByteArray} {q : Int} {c : Nat} (hg : getW s p = (x, q, c)) :
    Calls Try.prog 45 #[.string s, .int .i64 p] w (Ret (.tuple #[.string x, .int .i64 q, .int .i64 (c : Int)]) w) := by
  obtain ⟨a, b, c', h⟩ : ∃ a b c', getR s p = (a, b, c') := ⟨_, _, _, rfl⟩
  by_cases hc : c' = 0
  · subst hc
    obtain ⟨k, m, h1, h2, h3, h4, h5, h6⟩ := getR_zero h
    obtain ⟨b, rfl⟩ : ∃ b' : Nat, b = b' := ⟨k + m, by omega⟩
    by_cases hb : b + a ≤ s.size
    · rw [getW_ok h hb] at hg; cases hg
      exact getword_ok s p w hs h hb
    · rw [getW_short h (by omega)] at hg; cases hg
      exact getword_short s p w hs h (by omega) (by omega)
  · rw [getW_e h hc] at hg; cases hg
    exact getword_e s p w hs h hc
end
set_option maxRecDepth 100000 in
set_option maxHeartbeats 4000000 in
theorem getwords_any (s : ByteArray) (k p : Nat) (w : World) (hs : s.size ≤ 140737488351232) (hk : k ≤ 4096) (hp : p ≤ s.size) {l : List ByteArray} {q : Int} {c : Nat} (hd : dws s k (p : Nat) [] = (l, q, c)) :
    Calls Try.prog 33 #[.string s, .int .i64 (p : Int), .int .i64 (k : Int)] w (RetV3 Value.string 9 l q c w) := by
  have hmk := run_makeV0 (P := Try.prog) (t := 22) (z := .string ⟨#[]⟩) rfl Try.underlying22 Try.infStr k (by omega) (by unfold maxLen; omega) w
  have HD := Lib.hid hd; clear hd
  go_enter Try.func33, Try.ntmps33
  go_wp2_with fail
  clear hmk
  go_loopw [1, 9, 16] (fun a ws i wr => ∃ (p j : Nat) (ls : List ByteArray), a = .int .i64 p ∧ i = .int .i64 j ∧ j ≤ k ∧ p ≤ s.size ∧ OwnV Value.string 9 wr w.heap.size ws ls ∧ ls.length = j ∧ dws s (k - j) (p : Nat) ls = (l, q, c) ∧ Below w.heap.size w wr) (fun _ _ i _ => k - (intOf i).toNat)
  case atStart => exact ⟨p, 0, [], rfl, rfl, Nat.zero_le _, hp, OwnV.made0 _ _ _ _ _ _ (Nat.le_refl _) (by unfold maxLen; omega), rfl, HD.out, (Below.refl _ _).alloc (Nat.le_refl _) _⟩
  case round =>
    clear hp HD
    obtain ⟨p, j, ls, rfl, rfl, hj, hp, hown, hlen, hd, hbel⟩ := hrel
    have HL := Lib.hid hlen
    have hl4 : ls.length ≤ 4096 := by omega
    clear hlen
    obtain ⟨A, cc, _, rfl, rfl, hc1, hc2⟩ := hown.read.bds
    have hrd := hown.read
    have hszr := hbel.size
    by_cases hlt : j < k
    · rw [show k - j = (k - (j + 1)) + 1 from by omega] at hd
      obtain ⟨x, q1, c1, hg⟩ : ∃ x q c, getW s (p : Nat) = (x, q, c) := ⟨_, _, _, rfl⟩
      by_cases hc0 : c1 = 0
      · subst hc0
        obtain ⟨k1, rfl, h1, h2, _, _⟩ := getW_zero hg
        have HG : Hid (∀ w, Calls Try.prog 45 #[.string s, .int .i64 (p : Int)] w (Ret (.tuple #[.string x, .int .i64 (k1 : Int), .int .i64 0]) w)) := Lib.hid (fun w => getword_any s p w hs hg)
        rcases Nat.eq_zero_or_pos ls.length with h0 | h0
        · rw [dws_go hg (fun y hy => by rw [List.eq_nil_of_length_eq_zero h0] at hy; simp at hy)] at hd
          have HD := Lib.hid hd
          have hl0 : ls.length ≤ 0 := by omega
          clear hd hg hrd h0
          go_wp2_with (first
            | (go_at_call 45; (with_reducible refine (HG.out _).mono ?_); rintro e w' ⟨rfl, rfl⟩)
            | (at_builtin; refine wpl_appV (f := Value.string) (fun _ => rfl) (.string ⟨#[]⟩) rfl rfl _ _ 22 rfl w.heap.size 9 16 Try.underlying22 Try.infStr (.slice A ls.length cc) ls rfl (hown.alloc _) (wr.heap.size + 1) _ [x] rfl (RdV.one _ _ _ _ _ (by decide) (by decide)) (by unfold maxLen; simp; omega) (by simp; omega) (by simp; omega) ?_; intro v' w' hown' hb' _))
          go_roundw
          case rel => exact ⟨k1, j + 1, _, rfl, by go_num, hlt, h2, hown', by rw [List.length_append, HL.out]; rfl, HD.out, (hbel.alloc hszr _).trans hb'⟩
          case measure => simp [intOf] <;> omega
        · obtain ⟨y, hy⟩ : ∃ y, ls[ls.length - 1]? = some y := ⟨_, List.getElem?_eq_getElem (by omega)⟩
          obtain ⟨ad, rfl, _, hgx⟩ := hrd.at hy
          rw [← List.getLast?_eq_getElem?] at hy
          clear hrd
          obtain ⟨r, hr⟩ : ∃ r : Nat, (ls.length : Int) - 1 = r := ⟨ls.length - 1, by omega⟩
          have hrl : ls.length - 1 = r := by omega
          rw [hrl] at hgx
          have hrn : r < ls.length := by omega
          clear hrl
          cases hyx : lts y x with
          | true =>
            rw [dws_go hg (fun z hz => by rw [hy] at hz; cases hz; exact hyx)] at hd
            have HD := Lib.hid hd
            have hd1 := le_false hyx
            have HOWN := Lib.hid hown
            clear hd hg hy hyx
            go_wp2_with (first
              | (go_at_call 45; (with_reducible refine (HG.out _).mono ?_); rintro e w' ⟨rfl, rfl⟩)
              | (at_builtin; refine wpl_appV (f := Value.string) (fun _ => rfl) (.string ⟨#[]⟩) rfl rfl _ _ 22 rfl w.heap.size 9 16 Try.underlying22 Try.infStr (.slice (some ad) ls.length cc) ls rfl (hown.alloc _) (wr.heap.size + 1) _ [x] rfl (RdV.one _ _ _ _ _ (by decide) (by decide)) (by unfold maxLen; simp; omega) (by simp; omega) (by simp; omega) ?_; intro v' w' hown' hb' _))
            go_roundw
            case rel => exact ⟨k1, j + 1, _, rfl, by go_num, hlt, h2, hown', by rw [List.length_append, HL.out]; rfl, HD.out, (hbel.alloc hszr _).trans hb'⟩
            case measure => simp [intOf] <;> omega
          | false =>
            rw [dws_f hg hy hyx] at hd
            have HD := Lib.hid hd
            have hd1 := le_true hyx
            clear hd hg hy hyx
            go_wp2_with (go_at_call 45; (with_reducible refine (HG.out _).mono ?_); rintro e w' ⟨rfl, rfl⟩)
            go_ret3
            have h := HD.out
            cases h
            exact RetV3.mk rfl (OwnV.nil _ _ _ _) hbel
      · rw [dws_e hg hc0] at hd
        have HG : Hid (∀ w, Calls Try.prog 45 #[.string s, .int .i64 (p : Int)] w (Ret (.tuple #[.string x, .int .i64 q1, .int .i64 (c1 : Int)]) w)) := Lib.hid (fun w => getword_any s p w hs hg)
        have HD := Lib.hid hd
        have hdc : ((c1 : Int) != 0) = true := by simp; omega
        clear hd hg hrd hc0
        go_wp2_with (go_at_call 45; (with_reducible refine (HG.out _).mono ?_); rintro e w' ⟨rfl, rfl⟩)
        go_ret3
        have h := HD.out
        cases h
        exact RetV3.mk rfl (OwnV.nil _ _ _ _) hbel
    · rw [show k - j = 0 from by omega, dws_done] at hd
      have HD := Lib.hid hd
      have HOWN := Lib.hid hown
      clear hd hrd hown
      go_wp2
      go_ret3
      have h := HD.out
      cases h
      exact RetV3.mk rfl HOWN.out hbel
end Go.Proofs.Ytikokmafofbofaa
