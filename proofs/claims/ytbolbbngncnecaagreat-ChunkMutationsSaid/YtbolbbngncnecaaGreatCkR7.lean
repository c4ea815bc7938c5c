/- The walks over the reference's chunks, read: body. -/
import Derived.Test.YtbolbbngncnecaaGreatCkR6
import Derived.Test.YtbolbbngncnecaaGreatCkWA
import Derived.Deep.CutRange
namespace Go.VS
open Go.RowKit Go.VB
/-- l[1:], as the walk spells it. -/
theorem RdL.tail1 {w : World} {B c n : Nat} {ad : Addr} {x : Vl} {l : List Vl} (h : RdL w B (.slice (some ad) n c) (x :: l)) : RdL w B (.slice (if c = 1 then some ad else some ⟨ad.block, ad.off + 3, none⟩) (n - 1) (c - 1)) l := by
  obtain ⟨A', c', hv, hc, hm, _⟩ := id h
  cases hv
  by_cases h1 : c = 1
  · rw [if_pos h1]
    have : l = [] := List.eq_nil_of_length_eq_zero (by rw [List.length_cons] at hc; omega)
    subst this
    exact ⟨_, _, rfl, by simp, by omega, fun i y hi => by simp at hi⟩
  · rw [if_neg h1]
    have ht := h.tail 1 (by simp)
    have e : ad.add (1 * 3) = ⟨ad.block, ad.off + 3, none⟩ := by unfold Addr.add; rw [if_neg (by decide)]
    rw [e] at ht
    exact ht
theorem RdL.lit1 (w : World) (a : Bool) (b : Int) (c : ByteArray) (e : TypeId) : RdL (w.alloc (.cells #[.bool a, .int .i64 b, .string c] e)) (w.alloc (.cells #[.bool a, .int .i64 b, .string c] e)).heap.size (.slice (some ⟨w.heap.size, 0, none⟩) 1 1) [⟨a, b, c⟩] :=
  (RdL.lit w [⟨a, b, c⟩] 1 e (Nat.le_refl 1) (by decide)).more (by simp)
theorem RdL.lit1d (w : World) (a : Bool) (b : Int) (c : ByteArray) (e : TypeId) : RdL (w.alloc (.cells #[.bool a, .int .i64 b, .string c] e)).drew (w.alloc (.cells #[.bool a, .int .i64 b, .string c] e)).drew.heap.size (.slice (some ⟨w.heap.size, 0, none⟩) 1 1) [⟨a, b, c⟩] :=
  (RdL.lit1 w a b c e).below (Below.refl _ _).drew
end Go.VS
namespace Go.CK
open Go.RowKit Go.VB Go.VarM Go.BP Go.VS Go.VL Go.NU Go.Proofs.YtbolbbngncnecaaGreat
theorem weave_more : ∀ (a c : List Bool) (l : List Vl), weave (a ++ c) l = weave a l ++ weave c (l.drop (a.count false))
  | [], c, l => by simp [weave_nil]
  | true :: a, c, l => by rw [List.cons_append, weave, weave, weave_more a c l, List.count_cons_of_ne (by decide)]; rfl
  | false :: a, c, [] => by rw [List.cons_append, weave, weave, weave_more a c []]; simp
  | false :: a, c, x :: l => by rw [List.cons_append, weave, weave, weave_more a c l, List.count_cons_self]; simp
theorem weave_in {b : List Bool} {l : List Vl} {m : Nat} {x : Vl} (h : x ∈ weave (b.take m) l) : x ∈ weave b l := by
  have := weave_more (b.take m) (b.drop m) l
  rw [List.take_append_drop] at this
  rw [this]
  exact List.mem_append_left _ h
theorem all_app1 {p : Vl → Prop} {l : List Vl} {x : Vl} (h : ∀ y ∈ l, p y) (hx : p x) : ∀ y ∈ l ++ [x], p y := by
  intro y hy
  rcases List.mem_append.1 hy with hy | hy
  · exact h y hy
  · rw [List.mem_singleton.1 hy]; exact hx
theorem fin_bad {typ : Int} {nu : Bool} {b : List Bool} {l : List Vl} {m : Nat} {x : Vl} (h : x ∈ weave (b.take m) l) (hx : chkV typ nu x ≠ 0) : fin typ nu b l = none := by
  unfold fin
  rw [if_neg (fun hh => hx (hh x (weave_in h)))]
theorem fin_good {typ : Int} {nu : Bool} {b : List Bool} {l : List Vl} (h : ∀ x ∈ weave b l, chkV typ nu x = 0) : fin typ nu b l = some (weave b l) := if_pos h
section
variable {typ : Int} {nu : Bool} {s : ByteArray} {n k r m e f : Nat} {q : Int}
theorem bodyD_1 (h1 : getR s 1 = (n, q, e)) (h : e ≠ 0 ∨ 4096 < n ∨ uses typ (bN s 0 : Nat) = false) : bodyD typ nu s = none := by unfold bodyD; rw [h1]; rw [if_pos h]
theorem bodyD_2 {r : Int} (h1 : getR s 1 = (n, q, 0)) (hn : n ≤ 4096) (hu : uses typ (bN s 0 : Nat) = true) (h2 : getR s q = (k, r, f)) (h : f ≠ 0 ∨ n < k) : bodyD typ nu s = none := by
  unfold bodyD; rw [h1]; simp only
  rw [if_neg (by rintro (h | h | h); exact h rfl; omega; rw [hu] at h; cases h), h2]; simp only
  rw [if_pos h]
theorem bodyD_0 (h1 : getR s 1 = (n, q, 0)) (hn : n ≤ 4096) (hu : uses typ (bN s 0 : Nat) = true) (h2 : getR s q = (0, (r : Int), 0)) : bodyD typ nu s = (payD typ (bN s 0 : Nat) (s.extract r s.size) n).bind (fin typ nu (List.replicate n false)) := by
  unfold bodyD; rw [h1]; simp only
  rw [if_neg (by rintro (h | h | h); exact h rfl; omega; rw [hu] at h; cases h), h2]; simp only
  rw [if_neg (by omega)]
  unfold tailD
  rw [if_pos rfl]; rfl
theorem bodyD_t (h1 : getR s 1 = (n, q, 0)) (hn : n ≤ 4096) (hu : uses typ (bN s 0 : Nat) = true) (h2 : getR s q = (k, (r : Int), 0)) (hkn : k ≤ n) : bodyD typ nu s = tailD typ nu (bN s 0 : Nat) s n k r := by
  unfold bodyD; rw [h1]; simp only
  rw [if_neg (by rintro (h | h | h); exact h rfl; omega; rw [hu] at h; cases h), h2]; simp only
  rw [if_neg (by omega)]; rfl
theorem tail_short {codec : Int} (hk : k ≠ 0) (hm : (n + 7) / 8 = m) (hs : s.size < r + m) : tailD typ nu codec s n k r = none := by subst hm; unfold tailD; rw [if_neg hk, if_pos hs]
theorem tail_bad {codec : Int} {B : ByteArray} (hk : k ≠ 0) (hm : (n + 7) / 8 = m) (hs : r + m ≤ s.size) (hB : s.extract r (r + m) = B) (h : (upk B n).2 ≠ 0 ∨ ones (num B) (8 * m) ≠ k) : tailD typ nu codec s n k r = none := by
  subst hm; subst hB; unfold tailD; rw [if_neg hk, if_neg (by omega), if_pos h]
theorem tail_ok {codec : Int} {B : ByteArray} (hk : k ≠ 0) (hm : (n + 7) / 8 = m) (hs : r + m ≤ s.size) (hB : s.extract r (r + m) = B) (h : (upk B n).2 = 0) (h2 : ones (num B) (8 * m) = k) : tailD typ nu codec s n k r = (payD typ codec (s.extract (r + m) s.size) (n - k)).bind (fin typ nu (upk B n).1) := by
  subst hm; subst hB; unfold tailD; rw [if_neg hk, if_neg (by omega), if_neg (by omega)]
end
theorem bk_facts {n k N : Nat} (hn : n ≤ 4096) (hk : n - k = N) (hkn : k ≤ n) : decide ((4096 : Int) < (n : Int)) = false ∧ decide (4096 < n) = false ∧ decide ((n : Int) < (k : Int)) = false ∧ decide (n < k) = false ∧ IntKind.u64.wrap ((n : Int) - (k : Int)) = (N : Int) ∧ wrap64 (N : Int) = (N : Int) ∧ IntKind.i64.wrap (N : Int) = (N : Int) ∧ wrap64 (n : Int) = (n : Int) ∧ wrap64 (k : Int) = (k : Int) :=
  ⟨decide_eq_false (by omega), decide_eq_false (by omega), decide_eq_false (by omega), decide_eq_false (by omega), by rw [IntKind.wrap_u64]; omega, by unfold wrap64; omega, IntWalk.i64_in _ ⟨by omega, by omega⟩, by unfold wrap64; omega, by unfold wrap64; omega⟩
theorem bm_facts {n m r z : Nat} (hn : n ≤ 4096) (hm : (n + 7) / 8 = m) (hr : r ≤ z) (hz : z ≤ 140737488351232) : ((n : Int) + 7) / 8 = (m : Int) ∧ ((n : Int) + 7).tdiv 8 = (m : Int) ∧ wrap64 ((r : Int) + (m : Int)) = (r : Int) + (m : Int) ∧ m ≤ 512 := by
  have h : ((n : Int) + 7) / 8 = (m : Int) := by omega
  exact ⟨h, by rw [Int.tdiv_eq_ediv_of_nonneg (by omega)]; exact h, by unfold wrap64; omega, by omega⟩
theorem drop_cons {l : List Vl} {k : Nat} (h : k < l.length) : l.drop k = l[k] :: l.drop (k + 1) := List.drop_eq_getElem_cons h
theorem weave_snocT {b : List Bool} {l : List Vl} {j : Nat} (h : b[j]? = some true) : weave (b.take (j + 1)) l = weave (b.take j) l ++ [nulV] := weave_snoc h
theorem weave_snocF {b : List Bool} {l : List Vl} {j k : Nat} {x : Vl} (h : b[j]? = some false) (hk : k = (b.take j).count false) (hx : l[k]? = some x) : weave (b.take (j + 1)) l = weave (b.take j) l ++ [x] := by
  rw [weave_snoc h, ← hk, List.getD_eq_getElem?_getD, hx]; rfl
end Go.CK
namespace Go.Proofs.YtbolbbngncnecaaGreat
open Go.RowKit Go.VB Go.VarM Go.BP Go.RL Go.VS Go.VL Go.DI Go.CK Go.NU
section
variable (nm : ByteArray) (ty sc : Int) (nu : Bool) (s : ByteArray) (W : World) (zs : s.size ≤ 140737488351232) (h0 : 1 ≤ s.size)
include zs h0
set_option maxRecDepth 100000 in
set_option maxHeartbeats 400000 in
theorem rbody_1 {n e : Nat} {q : Int} (h1 : getR s 1 = (n, q, e)) (h : e ≠ 0 ∨ 4096 < n ∨ uses ty (bN s 0 : Nat) = false) : Calls Tryz.prog 46 #[(.agg #[.string nm, .int .i64 ty, .int .i64 sc, .bool nu]), .string s] W (PlP (bodyD ty nu s) W) := by
  rw [bodyD_1 h1 h]
  have HG := fun w => Lib.hid (rget_is s 1 w (by unfold maxLen; omega) h1)
  clear h1
  have HB1 := Lib.hid ((Below.refl W.heap.size W).alloc (Nat.le_refl _) (.cells #[.string nm, .int .i64 ty, .int .i64 sc, .bool nu] 24))
  have HS1 := Lib.hid (show (W.alloc (.cells #[.string nm, .int .i64 ty, .int .i64 sc, .bool nu] 24)).heap.size = W.heap.size + 1 from by simp)
  have HVR := Lib.hid (Var4.new W (.string nm) (.int .i64 ty) (.int .i64 sc) (.bool nu) 24)
  have hb0 := get_bN s
  have hbl := bN_lt s 0
  have hlt : (0 : Int) < (s.size : Int) := by omega
  have hlt2 : 0 < s.size := h0
  obtain ⟨x, hx⟩ : ∃ x, bN s 0 = x := ⟨_, rfl⟩
  have hwx : wrap64 (x : Int) = (x : Int) := by rw [← hx]; unfold wrap64; omega
  clear hbl
  have HU := fun w => Lib.hid (uses_any ty (bN s 0 : Nat) w)
  rw [hx] at h HU
  by_cases he : e = 0
  · subst he
    by_cases hn : 4096 < n
    · have hd : decide ((4096 : Int) < (n : Int)) = true := decide_eq_true (by omega)
      have hd2 : decide (4096 < n) = true := decide_eq_true hn
      clear h hn
      go_enter Tryz.func46, Tryz.ntmps46
      go_wp2_with fail
      (with_reducible refine (HG _).out.mono ?_); rintro e w1 ⟨rfl, rfl⟩
      go_wp2
      go_ret2
      exact PlP.mk rfl (RdL.nil _ _) (.inr ⟨rfl, rfl⟩) HB1.out
    · have hd : decide ((4096 : Int) < (n : Int)) = false := decide_eq_false (by omega)
      have hd2 : decide (4096 < n) = false := decide_eq_false hn
      have hu : uses ty (x : Int) = false := by rcases h with h | h | h; exact absurd rfl h; exact absurd h hn; exact h
      rw [hu] at HU
      obtain ⟨v0, v1, v2, v3⟩ := HVR.out
      clear h hn hu
      go_enter Tryz.func46, Tryz.ntmps46
      go_wp2_with fail
      (with_reducible refine (HG _).out.mono ?_); rintro e w1 ⟨rfl, rfl⟩
      go_wp2_with fail
      (with_reducible refine (HU _).out.mono ?_); rintro e w2 ⟨rfl, hb2⟩
      go_wp2
      go_ret2
      exact PlP.mk rfl (RdL.nil _ _) (.inr ⟨rfl, rfl⟩) (bel_trans HB1.out hb2)
  · have hd := chkE_ne he
    clear h he
    go_enter Tryz.func46, Tryz.ntmps46
    go_wp2_with fail
    (with_reducible refine (HG _).out.mono ?_); rintro e w1 ⟨rfl, rfl⟩
    go_wp2
    go_ret2
    exact PlP.mk rfl (RdL.nil _ _) (.inr ⟨rfl, rfl⟩) HB1.out
set_option maxRecDepth 100000 in
set_option maxHeartbeats 400000 in
theorem rbody_2 {n k f : Nat} {q r : Int} (h1 : getR s 1 = (n, q, 0)) (hn : n ≤ 4096) (hu : uses ty (bN s 0 : Nat) = true) (h2 : getR s q = (k, r, f)) (h : f ≠ 0 ∨ n < k) : Calls Tryz.prog 46 #[(.agg #[.string nm, .int .i64 ty, .int .i64 sc, .bool nu]), .string s] W (PlP (bodyD ty nu s) W) := by
  rw [bodyD_2 h1 hn hu h2 h]
  have HG := fun w => Lib.hid (rget_ok s 1 w (by unfold maxLen; omega) h1)
  have HG2 := fun w => Lib.hid (rget_is s q w (by unfold maxLen; omega) h2)
  have HU := fun w => Lib.hid (uses_any ty (bN s 0 : Nat) w)
  rw [hu] at HU
  clear h1 h2 hu
  have HB1 := Lib.hid ((Below.refl W.heap.size W).alloc (Nat.le_refl _) (.cells #[.string nm, .int .i64 ty, .int .i64 sc, .bool nu] 24))
  have HS1 := Lib.hid (show (W.alloc (.cells #[.string nm, .int .i64 ty, .int .i64 sc, .bool nu] 24)).heap.size = W.heap.size + 1 from by simp)
  have HVR := Lib.hid (Var4.new W (.string nm) (.int .i64 ty) (.int .i64 sc) (.bool nu) 24)
  have hb0 := get_bN s
  have hbl := bN_lt s 0
  have hlt : (0 : Int) < (s.size : Int) := by omega
  have hlt2 : 0 < s.size := h0
  obtain ⟨x, hx⟩ : ∃ x, bN s 0 = x := ⟨_, rfl⟩
  have hwx : wrap64 (x : Int) = (x : Int) := by rw [← hx]; unfold wrap64; omega
  clear hbl
  rw [hx] at HU
  have hd : decide ((4096 : Int) < (n : Int)) = false := decide_eq_false (by omega)
  have hd2 : decide (4096 < n) = false := decide_eq_false (by omega)
  obtain ⟨v0, v1, v2, v3⟩ := HVR.out
  by_cases hf : f = 0
  · subst hf
    have hkn : n < k := by rcases h with h | h; exact absurd rfl h; exact h
    have d1 : decide ((n : Int) < (k : Int)) = true := decide_eq_true (by omega)
    have d2 : decide (n < k) = true := decide_eq_true hkn
    clear h hkn
    go_enter Tryz.func46, Tryz.ntmps46
    go_wp2_with fail
    (with_reducible refine (HG _).out.mono ?_); rintro e w1 ⟨rfl, rfl⟩
    go_wp2_with fail
    (with_reducible refine (HU _).out.mono ?_); rintro e w2 ⟨rfl, hb2⟩
    go_wp2_with fail
    (with_reducible refine (HG2 _).out.mono ?_); rintro e w1 ⟨rfl, rfl⟩
    go_wp2
    go_ret2
    exact PlP.mk rfl (RdL.nil _ _) (.inr ⟨rfl, rfl⟩) (bel_trans HB1.out hb2)
  · have hd3 := chkE_ne hf
    clear h hf
    go_enter Tryz.func46, Tryz.ntmps46
    go_wp2_with fail
    (with_reducible refine (HG _).out.mono ?_); rintro e w1 ⟨rfl, rfl⟩
    go_wp2_with fail
    (with_reducible refine (HU _).out.mono ?_); rintro e w2 ⟨rfl, hb2⟩
    go_wp2_with fail
    (with_reducible refine (HG2 _).out.mono ?_); rintro e w1 ⟨rfl, rfl⟩
    go_wp2
    go_ret2
    exact PlP.mk rfl (RdL.nil _ _) (.inr ⟨rfl, rfl⟩) (bel_trans HB1.out hb2)
set_option maxRecDepth 100000 in
set_option maxHeartbeats 800000 in
theorem rbody_0 {n r : Nat} {q : Int} (h1 : getR s 1 = (n, q, 0)) (hn : n ≤ 4096) (hu : uses ty (bN s 0 : Nat) = true) (h2 : getR s q = (0, (r : Int), 0)) (hr : r ≤ s.size) : Calls Tryz.prog 46 #[(.agg #[.string nm, .int .i64 ty, .int .i64 sc, .bool nu]), .string s] W (PlP (bodyD ty nu s) W) := by
  rw [bodyD_0 h1 hn hu h2]
  have HG := fun w => Lib.hid (rget_ok s 1 w (by unfold maxLen; omega) h1)
  have HG2 := fun w => Lib.hid (rget_ok s q w (by unfold maxLen; omega) h2)
  have HU := fun w => Lib.hid (uses_any ty (bN s 0 : Nat) w)
  rw [hu] at HU
  obtain ⟨U, hU⟩ : ∃ U, s.extract r s.size = U := ⟨_, rfl⟩
  have hUs : U.size ≤ s.size := by rw [← hU, ByteArray.size_extract]; omega
  have HP := fun w => Lib.hid (unpay_any ty U n w (by omega) hn (bN s 0) (uses_le hu).1 (uses_le hu).2)
  have HPL := Lib.hid (fun (l : List Vl) (h : payD ty (bN s 0 : Nat) U n = some l) => payD_len hn h)
  rw [hU]
  have hr2 : (r : Int) ≤ (s.size : Int) := by omega
  clear h1 h2 hu hUs
  have HB1 := Lib.hid ((Below.refl W.heap.size W).alloc (Nat.le_refl _) (.cells #[.string nm, .int .i64 ty, .int .i64 sc, .bool nu] 24))
  have HS1 := Lib.hid (show (W.alloc (.cells #[.string nm, .int .i64 ty, .int .i64 sc, .bool nu] 24)).heap.size = W.heap.size + 1 from by simp)
  have HVR := Lib.hid (Var4.new W (.string nm) (.int .i64 ty) (.int .i64 sc) (.bool nu) 24)
  have hb0 := get_bN s
  have hbl := bN_lt s 0
  have hlt : (0 : Int) < (s.size : Int) := by omega
  have hlt2 : 0 < s.size := h0
  obtain ⟨x, hx⟩ : ∃ x, bN s 0 = x := ⟨_, rfl⟩
  have hwx : wrap64 (x : Int) = (x : Int) := by rw [← hx]; unfold wrap64; omega
  clear hbl
  rw [hx] at HU HP HPL ⊢
  generalize payD ty (x : Int) U n = D at *
  obtain ⟨b, hb⟩ : ∃ b, List.replicate n false = b := ⟨_, rfl⟩
  have HBN := Lib.hid (show b.length = n by rw [← hb, List.length_replicate])
  have HCN := Lib.hid (show b.count false = n by rw [← hb, List.count_replicate_self])
  rw [hb]
  obtain rfl := HBN.out
  have HMK := Lib.hid (fun w => run_makeBu (P := Tryz.prog) Tryz.underlying45 Tryz.infBool b.length hn w)
  have HROW := Lib.hid (fun w => (RowV.made Value.bool false 4 w w.heap.size b.length (Nat.le_refl _) (by unfold maxLen; omega)).own_at (n := b.length) (l' := b) List.length_replicate hb)
  clear hb
  obtain ⟨hd, hd2, d3, d4, hw1, hw2, hw3, hw4, -⟩ := bk_facts (n := b.length) (k := 0) (N := b.length) hn (Nat.sub_zero _) (Nat.zero_le _)
  have hwu : IntKind.u64.wrap (b.length : Int) = (b.length : Int) := by have := hw1; rw [show ((0 : Nat) : Int) = 0 from rfl, Int.sub_zero] at this; exact this
  obtain ⟨v0, v1, v2, v3⟩ := HVR.out
  go_enter Tryz.func46, Tryz.ntmps46
  go_wp2_with fail
  (with_reducible refine (HG _).out.mono ?_); rintro e w1 ⟨rfl, rfl⟩
  go_wp2_with fail
  (with_reducible refine (HU _).out.mono ?_); rintro e w2 ⟨rfl, hb2⟩
  clear v0 v1 v2 v3
  have hmk := HMK.out w2
  have hrow := HROW.out w2
  have hbm : Below w2.heap.size w2 (w2.alloc (.cells (madeCells #[.bool false] b.length) 4)) := (Below.refl _ _).alloc (Nat.le_refl _) _
  go_wp2_with fail
  (with_reducible refine (HG2 _).out.mono ?_); rintro e w1 ⟨rfl, rfl⟩
  obtain ⟨wn, hwn⟩ : ∃ wn, (w2.alloc (.cells (madeCells #[.bool false] b.length) 4)) = wn := ⟨_, rfl⟩
  rw [hwn] at hmk hrow hbm
  have HBW := Lib.hid (show Below (W.heap.size + 1) (W.alloc (.cells #[.string nm, .int .i64 ty, .int .i64 sc, .bool nu] 24)) wn from by have h := bel_trans hb2 hbm; rw [HS1.out] at h; exact h)
  have HRN := Lib.hid (show RdV Value.bool wn wn.heap.size (.slice (some ⟨w2.heap.size, 0, none⟩) b.length b.length) b from hrow.read)
  clear hrow hbm hb2 HMK HROW hwn
  have hszn := HBW.out.size
  rw [HS1.out] at hszn
  obtain ⟨v0, v1, v2, v3⟩ := HVR.out.below HBW.out (Nat.lt_succ_self _)
  go_upto_region 18 with fail
  go_cut [14, 15] from 93 to 106 (fun sv okv w' => ∃ l ok, okv = .bool ok ∧ RdL w' w'.heap.size sv l ∧ ((ok = true ∧ D = some l) ∨ (ok = false ∧ D = none)) ∧ Below wn.heap.size wn w')
  case first =>
    go_region_with (first | (go_at_call 67; (with_reducible refine (HP _).out.mono ?_); rintro e w5 ⟨vp, l, ok, rfl, hrp, hd, hb5⟩))
    all_goals
      have HD5 := Lib.hid hd
      clear hd
      go_wp2_with fail
      go_meet
      case rel => exact ⟨l, ok, rfl, hrp, HD5.out, bel_trans (by go_grown) hb5⟩
  case rest =>
    clear hd hd2 d3 d4 hw1 hw2 hw3 hw4 hwx
    obtain ⟨l, ok, rfl, hrp, hd, hb5⟩ := hcut
    have HRP := Lib.hid hrp
    have hbw5 := HBW.out.trans (hb5.mono hszn)
    have HRN5 := Lib.hid (HRN.out.step hb5)
    generalize (⟨w2.heap.size, 0, none⟩ : Addr) = AD at HRN5 ⊢
    clear hmk
    clear HRN HP v0 v1 v2 v3 hrp
    rcases hd with ⟨rfl, hd⟩ | ⟨rfl, hd⟩
    · have HFB := Lib.hid (fun (m : Nat) (y : Vl) (hm : y ∈ weave (b.take m) l) (hy : chkV ty nu y ≠ 0) => show D.bind (fin ty nu b) = none by rw [hd]; exact fin_bad hm hy)
      have HFG := Lib.hid (fun (hm : ∀ y ∈ weave b l, chkV ty nu y = 0) => show D.bind (fin ty nu b) = some (weave b l) by rw [hd]; exact fin_good hm)
      have HPLN := Lib.hid (HPL.out l hd)
      generalize D.bind (fin ty nu b) = R at *
      have hbx : Below W.heap.size W wc := HB1.out.trans (hbw5.mono (Nat.le_succ _))
      have HBX := Lib.hid hbx
      clear hd hb5 HBW HPL hbx
      have hsz5 := hbw5.size
      rw [HS1.out] at hsz5
      have HV5 := Lib.hid (HVR.out.below hbw5 (Nat.lt_succ_self _))
      clear hbw5 hszn HVR
      go_wp2_with fail
      go_loopw [4, 5, 14, 16, 111] (fun r1 r2 sv ov i wr => ∃ (j k : Nat), r1 = .slice none 0 0 ∧ r2 = .bool false ∧ i = .int .i64 j ∧ j ≤ b.length ∧ k = (b.take j).count false ∧ RdL wr wc.heap.size sv (l.drop k) ∧ OwnL 42 wr wc.heap.size ov (weave (b.take j) l) ∧ (∀ y ∈ weave (b.take j) l, chkV ty nu y = 0) ∧ Below wc.heap.size wc wr) (fun _ _ _ _ i _ => b.length - (intOf i).toNat)
      case atStart => exact ⟨0, 0, rfl, rfl, rfl, Nat.zero_le _, rfl, HRP.out, OwnL.nil _ _ _, fun _ h => by simp [weave_nil] at h, Below.refl _ _⟩
      case round =>
        obtain ⟨j, k, rfl, rfl, rfl, hj, hk, hrs, hown, hall, hbel⟩ := hrel
        have HK := Lib.hid hk; have HAL := Lib.hid hall
        clear hk hall
        have hszr := hbel.size
        by_cases hlt3 : j < b.length
        · have hlj : b[j]? = some b[j] := List.getElem?_eq_getElem hlt3
          obtain ⟨adn, hadn, _, q0⟩ := (HRN5.out.below hbel).at hlj
          obtain rfl := Option.some.inj hadn
          have HJ := Lib.hid hlj; clear hlj
          generalize b[j] = y at q0 HJ
          replace q0 : wr.cell? (Addr.add _ j) = some (.bool y) := q0
          have HWL := Lib.hid (show (weave (b.take j) l).length ≤ 4096 by rw [weave_len, List.length_take]; omega)
          cases y
          · have hkl : k < l.length := by rw [HPLN.out, HK.out, ← HCN.out]; exact count_lt HJ.out
            rw [drop_cons hkl] at hrs
            obtain ⟨As, cs, nL, rfl, hls, hcs1, hcs2⟩ := hrs.bds
            have hnL : nL = l.length - k := by rw [hls, List.length_cons, List.length_drop]; omega
            have hrsD := hrs.below (((Below.refl wc.heap.size wr).alloc hszr (.cells #[.bool true, .int .i64 0, .string ⟨#[]⟩] 42)).drew)
            obtain ⟨ads, rfl, hab, p0, p1, p2⟩ := hrsD.at (i := 0) (x := l[k]) rfl
            rw [show (0 : Nat) * 3 = 0 from rfl, addr_zero] at p0 p1 p2
            have ht1 := hrs.tail1
            rw [hnL] at ht1
            have hlk : l[k]? = some l[k] := List.getElem?_eq_getElem hkl
            have HW := Lib.hid (weave_snocF HJ.out HK.out hlk)
            have HCS := Lib.hid (count_snoc HJ.out)
            generalize l[k] = X at p0 p1 p2 HW hlk
            obtain ⟨yb, yn, ys⟩ := X
            simp only at p0 p1 p2
            have hcs3 : 1 ≤ cs := by rw [hls, List.length_cons] at hcs1; exact Nat.le_trans (Nat.le_add_left 1 _) hcs1
            have hlk0 : 0 < l.length - k := Nat.sub_pos_of_lt hkl
            have hlk1 : (0 : Int) < ((l.length - k : Nat) : Int) := by omega
            have hlk2 : 1 ≤ l.length - k := hlk0
            have HT1 := Lib.hid ht1
            have HRB := Lib.hid (((Below.refl wc.heap.size wr).alloc hszr (.cells #[.bool true, .int .i64 0, .string ⟨#[]⟩] 42)).drew)
            clear hrsD hrs ht1
            go_upto_region 27 with fail
            go_cut [14] from 118 to 122 (fun sv w' => RdL w' wc.heap.size sv (l.drop (k + 1)) ∧ w' = (wr.alloc (.cells #[.bool yb, .int .i64 yn, .string ys] 42)).drew)
            case first =>
              by_cases hc1 : cs = 1
              · subst hc1
                have ht1 := HT1.out
                rw [if_pos rfl] at ht1
                have HT1 := Lib.hid ht1
                clear ht1
                go_region
                go_wp2_with fail
                go_meet
                case rel => exact ⟨HT1.out.below ((Below.refl wc.heap.size wr).alloc hszr (.cells #[.bool yb, .int .i64 yn, .string ys] 42)).drew, rfl⟩
              · have ht1 := HT1.out
                rw [if_neg hc1] at ht1
                have HT1 := Lib.hid ht1
                clear ht1
                go_region
                go_wp2_with fail
                go_meet
                case rel => exact ⟨HT1.out.below ((Below.refl wc.heap.size wr).alloc hszr (.cells #[.bool yb, .int .i64 yn, .string ys] 42)).drew, rfl⟩
            case rest =>
              obtain ⟨hrsN, rfl⟩ := hcut
              have HBV := Lib.hid ((hbel.alloc hszr (.cells #[.bool yb, .int .i64 yn, .string ys] 42)).drew)
              have HO5 := Lib.hid ((hown.alloc (.cells #[.bool yb, .int .i64 yn, .string ys] 42)).drew)
              have HL5 := Lib.hid (show RdL (wr.alloc (.cells #[.bool yb, .int .i64 yn, .string ys] 42)).drew (wr.alloc (.cells #[.bool yb, .int .i64 yn, .string ys] 42)).drew.heap.size (.slice (some ⟨wr.heap.size, 0, none⟩) 1 1) [(⟨yb, yn, ys⟩ : Vl)] from RdL.lit1d wr yb yn ys 42)
              generalize (wr.alloc (.cells #[.bool yb, .int .i64 yn, .string ys] 42)).drew = WV at *
              clear p0 p1 p2 hlk0 hlk1 hlk2 HT1 HRB hls hcs1 hcs2 hcs3 q0 hown hbel hlk hab hkl
              have HRSN := Lib.hid hrsN
              clear hrsN
              obtain ⟨v0, v1, v2, v3⟩ := HV5.out.below HBV.out HV5.out.lt
              obtain ⟨adx, hadx, _, c0, c1, c2⟩ := HL5.out.at (i := 0) (x := (⟨yb, yn, ys⟩ : Vl)) rfl
              obtain rfl := Option.some.inj hadx
              clear hadx
              replace c0 : WV.cell? ⟨wr.heap.size, 0, none⟩ = some (.bool yb) := c0
              replace c1 : WV.cell? ⟨wr.heap.size, 1, none⟩ = some (.int .i64 yn) := c1
              replace c2 : WV.cell? ⟨wr.heap.size, 2, none⟩ = some (.string ys) := c2
              go_wp2_with fail
              (with_reducible refine (rchk_any nm ty sc nu yb yn ys _).mono ?_); rintro e w6 ⟨rfl, hb6⟩
              have HB6 := Lib.hid hb6
              have hbw := HBV.out.trans (hb6.mono HBV.out.size)
              clear v0 v1 v2 v3 c0 c1 c2
              obtain ⟨adx, hadx, _, c0, c1, c2⟩ := (HL5.out.step hb6).at (i := 0) (x := (⟨yb, yn, ys⟩ : Vl)) rfl
              obtain rfl := Option.some.inj hadx
              clear hadx
              replace c0 : w6.cell? ⟨wr.heap.size, 0, none⟩ = some (.bool yb) := c0
              replace c1 : w6.cell? ⟨wr.heap.size, 1, none⟩ = some (.int .i64 yn) := c1
              replace c2 : w6.cell? ⟨wr.heap.size, 2, none⟩ = some (.string ys) := c2
              obtain ⟨C, hC⟩ : ∃ C, chkV ty nu (⟨yb, yn, ys⟩ : Vl) = C := ⟨_, rfl⟩
              have hC' : chk ty nu yb yn ys = C := hC
              rw [hC']
              have HC := Lib.hid hC
              clear hC hC' hb6 HL5
              by_cases h0 : C = 0
              · subst h0
                have HX2 := Lib.hid (RdL.lit w6 [(⟨yb, yn, ys⟩ : Vl)] 1 42 (Nat.le_refl 1) (by decide))
                have HO := Lib.hid ((HO5.out.below HB6.out).alloc (.cells #[.bool yb, .int .i64 yn, .string ys] 42))
                have HBA := Lib.hid (hbw.alloc hbw.size (.cells #[.bool yb, .int .i64 yn, .string ys] 42))
                have HL1 := Lib.hid (show (weave (b.take j) l).length + [(⟨yb, yn, ys⟩ : Vl)].length ≤ 1000000 by have := HWL.out; simp only [List.length_cons, List.length_nil]; omega)
                have HL3 := Lib.hid HBA.out.size
                have HA2 := Lib.hid (all_app1 HAL.out HC.out)
                have HRX := Lib.hid (HRSN.out.below ((HB6.out.mono HBV.out.size).alloc (Nat.le_trans HBV.out.size HB6.out.size) (.cells #[.bool yb, .int .i64 yn, .string ys] 42)))
                clear hbw HO5 HB6 HBV HAL
                go_wp2_with (at_builtin; refine wpl_appL rfl _ _ 28 rfl wc.heap.size 42 Tryz.underlying28 Tryz.infVal _ (weave (b.take j) l) rfl HO.out _ _ [(⟨yb, yn, ys⟩ : Vl)] rfl HX2.out HL1.out HL3.out ?_)
                intro v' w' hown' hb' _
                have hbz := HBA.out.trans hb'
                have hrz := HRX.out.below hb'
                go_wp2_with fail
                go_roundw
                case rel => exact ⟨j + 1, k + 1, rfl, rfl, by go_num, hlt3, by rw [HCS.out, HK.out]; rfl, hrz, by rw [HW.out]; exact hown', by rw [HW.out]; exact HA2.out, hbz⟩
                case measure => simp [intOf] <;> omega
              · have hd : ((C : Int) != 0) = true := ine_t (by omega)
                have HE := Lib.hid (HFB.out (j + 1) (⟨yb, yn, ys⟩ : Vl) (by rw [HW.out]; simp) (by rw [HC.out]; exact h0))
                have hB := HBX.out.trans (hbw.mono (Nat.le_trans (Nat.le_succ _) hsz5))
                clear h0 hbw
                go_wp2_with fail
                go_ret2
                exact PlP.mk rfl (RdL.nil _ _) (.inr ⟨rfl, HE.out⟩) hB
          · have HW := Lib.hid (weave_snocT (l := l) HJ.out)
            have HCS := Lib.hid (count_snoc HJ.out)
            have hrsN := hrs.below ((Below.refl wc.heap.size wr).alloc hszr (.cells #[.bool true, .int .i64 0, .string ⟨#[]⟩] 42))
            have HBV := Lib.hid (hbel.alloc hszr (.cells #[.bool true, .int .i64 0, .string ⟨#[]⟩] 42))
            have HO5 := Lib.hid (hown.alloc (.cells #[.bool true, .int .i64 0, .string ⟨#[]⟩] 42))
            have HL5 := Lib.hid (show RdL (wr.alloc (.cells #[.bool true, .int .i64 0, .string ⟨#[]⟩] 42)) (wr.alloc (.cells #[.bool true, .int .i64 0, .string ⟨#[]⟩] 42)).heap.size (.slice (some ⟨wr.heap.size, 0, none⟩) 1 1) [nulV] from RdL.lit1 wr true 0 ⟨#[]⟩ 42)
            clear hrs hown hbel
            go_upto_region 28 with fail
            generalize (wr.alloc (.cells #[.bool true, .int .i64 0, .string ⟨#[]⟩] 42)) = WV at *
            clear q0
            have HRSN := Lib.hid hrsN
            clear hrsN
            obtain ⟨v0, v1, v2, v3⟩ := HV5.out.below HBV.out HV5.out.lt
            obtain ⟨adx, hadx, _, c0, c1, c2⟩ := HL5.out.at (i := 0) (x := nulV) rfl
            obtain rfl := Option.some.inj hadx
            clear hadx
            replace c0 : WV.cell? ⟨wr.heap.size, 0, none⟩ = some (.bool true) := c0
            replace c1 : WV.cell? ⟨wr.heap.size, 1, none⟩ = some (.int .i64 0) := c1
            replace c2 : WV.cell? ⟨wr.heap.size, 2, none⟩ = some (.string ⟨#[]⟩) := c2
            go_wp2_with fail
            (with_reducible refine (rchk_any nm ty sc nu true 0 ⟨#[]⟩ _).mono ?_); rintro e w6 ⟨rfl, hb6⟩
            have HB6 := Lib.hid hb6
            have hbw := HBV.out.trans (hb6.mono HBV.out.size)
            clear v0 v1 v2 v3 c0 c1 c2
            obtain ⟨adx, hadx, _, c0, c1, c2⟩ := (HL5.out.step hb6).at (i := 0) (x := nulV) rfl
            obtain rfl := Option.some.inj hadx
            clear hadx
            replace c0 : w6.cell? ⟨wr.heap.size, 0, none⟩ = some (.bool true) := c0
            replace c1 : w6.cell? ⟨wr.heap.size, 1, none⟩ = some (.int .i64 0) := c1
            replace c2 : w6.cell? ⟨wr.heap.size, 2, none⟩ = some (.string ⟨#[]⟩) := c2
            obtain ⟨C, hC⟩ : ∃ C, chkV ty nu nulV = C := ⟨_, rfl⟩
            have hC' : chk ty nu true 0 ⟨#[]⟩ = C := hC
            rw [hC']
            have HC := Lib.hid hC
            clear hC hC' hb6 HL5
            by_cases h0 : C = 0
            · subst h0
              have HX2 := Lib.hid (RdL.lit w6 [nulV] 1 42 (Nat.le_refl 1) (by decide))
              have HO := Lib.hid ((HO5.out.below HB6.out).alloc (.cells #[.bool true, .int .i64 0, .string ⟨#[]⟩] 42))
              have HBA := Lib.hid (hbw.alloc hbw.size (.cells #[.bool true, .int .i64 0, .string ⟨#[]⟩] 42))
              have HL1 := Lib.hid (show (weave (b.take j) l).length + [nulV].length ≤ 1000000 by have := HWL.out; simp only [List.length_cons, List.length_nil]; omega)
              have HL3 := Lib.hid HBA.out.size
              have HA2 := Lib.hid (all_app1 HAL.out HC.out)
              have HRX := Lib.hid (HRSN.out.below ((HB6.out.mono HBV.out.size).alloc (Nat.le_trans HBV.out.size HB6.out.size) (.cells #[.bool true, .int .i64 0, .string ⟨#[]⟩] 42)))
              clear hbw HO5 HB6 HBV HAL
              go_wp2_with (at_builtin; refine wpl_appL rfl _ _ 28 rfl wc.heap.size 42 Tryz.underlying28 Tryz.infVal _ (weave (b.take j) l) rfl HO.out _ _ [nulV] rfl HX2.out HL1.out HL3.out ?_)
              intro v' w' hown' hb' _
              have hbz := HBA.out.trans hb'
              have hrz := HRX.out.below hb'
              go_wp2_with fail
              go_roundw
              case rel => exact ⟨j + 1, k, rfl, rfl, by go_num, hlt3, by rw [HCS.out, HK.out]; rfl, hrz, by rw [HW.out]; exact hown', by rw [HW.out]; exact HA2.out, hbz⟩
              case measure => simp [intOf] <;> omega
            · have hd : ((C : Int) != 0) = true := ine_t (by omega)
              have HE := Lib.hid (HFB.out (j + 1) nulV (by rw [HW.out]; simp) (by rw [HC.out]; exact h0))
              have hB := HBX.out.trans (hbw.mono (Nat.le_trans (Nat.le_succ _) hsz5))
              clear h0 hbw
              go_wp2_with fail
              go_ret2
              exact PlP.mk rfl (RdL.nil _ _) (.inr ⟨rfl, HE.out⟩) hB
        · have HT := Lib.hid (show b.take j = b from List.take_of_length_le (by omega))
          have hro := hown.read
          have hal := HAL.out
          rw [HT.out] at hro hal
          have HRO := Lib.hid hro
          have HE := Lib.hid (HFG.out hal)
          have hB := HBX.out.trans (hbel.mono (Nat.le_trans (Nat.le_succ _) hsz5))
          clear hro hal hrs hown hbel
          go_wp2
          go_ret2
          exact PlP.mk rfl HRO.out (.inl ⟨rfl, HE.out⟩) hB
    · have HN := Lib.hid (show D.bind (fin ty nu b) = none by rw [hd]; rfl)
      have hB := HB1.out.trans (hbw5.mono (Nat.le_succ _))
      clear hd
      go_wp2
      go_ret2
      exact PlP.mk rfl (RdL.nil _ _) (.inr ⟨rfl, HN.out⟩) hB
end
end Go.Proofs.YtbolbbngncnecaaGreat
