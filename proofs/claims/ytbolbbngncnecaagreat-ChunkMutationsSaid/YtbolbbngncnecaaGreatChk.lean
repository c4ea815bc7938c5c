/- Chunks: the payloads, the bytes of a chunk, what is read of a text. -/
import Derived.Test.YtbolbbngncnecaaGreatVls
import Derived.Test.YtbolbbngncnecaaGreatG8
import Derived.Test.YtbolbbngncnecaaGreatG3
import Derived.Test.YtbolbbngncnecaaGreatGD
import Derived.Test.YtbolbbngncnecaaGreatGL
namespace Go.CK
open Go.RowKit Go.VB Go.VarM Go.BP Go.RL Go.VS Go.Proofs.YtbolbbngncnecaaGreat
/-- The numbers, the texts, the marks of values. -/
def nums (l : List Vl) : List Int := l.map Vl.n
def txts (l : List Vl) : List ByteArray := l.map Vl.s
def marks (l : List Vl) : List Bool := l.map Vl.nu
/-- The values that are not null. -/
def some' (l : List Vl) : List Vl := l.filter fun v => !v.nu
theorem some_len (l : List Vl) : (some' l).length ≤ l.length := List.length_filter_le _ _
theorem some_snoc {l : List Vl} {j : Nat} {x : Vl} (h : l[j]? = some x) : some' (l.take (j + 1)) = if x.nu then some' (l.take j) else some' (l.take j) ++ [x] := by
  unfold some'
  rw [List.take_add_one, h, List.filter_append]
  cases hx : x.nu <;> simp [hx]
/-- One value of the codec Plain. -/
def one (typ : Int) (v : Vl) : List UInt8 := if typ = 3 then putL v.s.size ++ v.s.data.toList else putL (zigN v.n).toNat
def plainB (typ : Int) (l : List Vl) : List UInt8 := l.flatMap (one typ)
theorem plain_nil (typ : Int) : plainB typ [] = [] := rfl
theorem plain_cons (typ : Int) (x : Vl) (l : List Vl) : plainB typ (x :: l) = one typ x ++ plainB typ l := rfl
theorem plain_snoc {typ : Int} {l : List Vl} {j : Nat} {x : Vl} (h : l[j]? = some x) : plainB typ (l.take (j + 1)) = plainB typ (l.take j) ++ one typ x := by
  unfold plainB
  rw [List.take_add_one, h, List.flatMap_append]; simp
/-- The payload with a codec. -/
def payB (typ codec : Int) (l : List Vl) : List UInt8 :=
  if codec = 2 then encR (nums l) else if codec = 3 then Go.DI.encD (txts l) else if codec = 4 then Go.DL.encX (nums l) else plainB typ l
/-- Whether a type uses a codec. -/
def uses (typ codec : Int) : Bool := if typ = 3 then decide (codec = 1 ∨ codec = 3) else decide (codec = 1 ∨ codec = 2 ∨ codec = 4)
/-- The four bytes of a checksum. -/
def four (c : Nat) : List UInt8 := [UInt8.ofNat (c % 256), UInt8.ofNat (c / 256 % 256), UInt8.ofNat (c / 65536 % 256), UInt8.ofNat (c / 16777216 % 256)]
/-- The checksum of bytes. -/
def crcL (s : List UInt8) : Nat := Go.CR.sumL Go.CR.tab s
/-- A chunk without its checksum, and with it. -/
def bodyB (typ codec : Int) (l : List Vl) : List UInt8 :=
  [UInt8.ofNat codec.toNat] ++ putL l.length ++ putL (l.length - (some' l).length) ++ (if (some' l).length < l.length then (Go.NU.bmp (marks l)).data.toList else []) ++ payB typ codec (some' l)
def buildB (typ codec : Int) (l : List Vl) : List UInt8 := bodyB typ codec l ++ four (crcL (bodyB typ codec l))

/-! reading -/
/-- The values of the codec Plain from place p on, m of them behind acc. -/
def plainD (typ : Int) (s : ByteArray) : Nat → Int → List Vl → Option (List Vl)
  | 0, p, acc => if p = s.size then some acc else none
  | m + 1, p, acc =>
    if (getR s p).2.2 ≠ 0 then none
    else if typ ≠ 3 then plainD typ s m (getR s p).2.1 (acc ++ [⟨false, zagN (getR s p).1, ⟨#[]⟩⟩])
    else if (s.size : Int) - (getR s p).2.1 < (getR s p).1 then none
    else plainD typ s m ((getR s p).2.1 + (getR s p).1) (acc ++ [⟨false, 0, s.extract (getR s p).2.1.toNat ((getR s p).2.1.toNat + (getR s p).1)⟩])
section
variable {typ : Int} {s : ByteArray} {m : Nat} {p : Int} {acc : List Vl}
theorem plainD_end (h : p = s.size) : plainD typ s 0 p acc = some acc := by unfold plainD; rw [if_pos h]
theorem plainD_left (h : ¬ p = s.size) : plainD typ s 0 p acc = none := by unfold plainD; rw [if_neg h]
theorem plainD_e {a : Nat} {b : Int} {e : Nat} (hg : getR s p = (a, b, e)) (he : e ≠ 0) : plainD typ s (m + 1) p acc = none := by rw [plainD, hg, if_pos he]
theorem plainD_num {a : Nat} {b : Int} (hg : getR s p = (a, b, 0)) (ht : typ ≠ 3) : plainD typ s (m + 1) p acc = plainD typ s m b (acc ++ [⟨false, zagN a, ⟨#[]⟩⟩]) := by rw [plainD, hg, if_neg (by simp), if_pos ht]
theorem plainD_long {a : Nat} {b : Int} (hg : getR s p = (a, b, 0)) (ht : typ = 3) (h : (s.size : Int) - b < a) : plainD typ s (m + 1) p acc = none := by rw [plainD, hg, if_neg (by simp), if_neg (by simp [ht]), if_pos h]
theorem plainD_text {a b : Nat} (hg : getR s p = (a, (b : Int), 0)) (ht : typ = 3) (h : b + a ≤ s.size) : plainD typ s (m + 1) p acc = plainD typ s m ((b + a : Nat) : Int) (acc ++ [⟨false, 0, s.extract b (b + a)⟩]) := by
  rw [plainD, hg, if_neg (by simp), if_neg (by simp [ht]), if_neg (by simp only; omega)]
  simp
end
/-- A value that is not null and holds nothing that its type does not use. -/
def pure' (typ : Int) (x : Vl) : Prop := x.nu = false ∧ (if typ = 3 then x.n = 0 ∧ x.s.size < 18446744073709551616 else x.s = ⟨#[]⟩ ∧ -9223372036854775808 ≤ x.n ∧ x.n ≤ 9223372036854775807)
theorem pure_num {typ : Int} {x : Vl} (h : pure' typ x) (ht : typ ≠ 3) : x = ⟨false, x.n, ⟨#[]⟩⟩ ∧ -9223372036854775808 ≤ x.n ∧ x.n ≤ 9223372036854775807 := by
  obtain ⟨nu, n, s⟩ := x
  unfold pure' at h
  rw [if_neg ht] at h
  simp only at h
  obtain ⟨rfl, rfl, h2⟩ := h
  exact ⟨rfl, h2⟩
theorem pure_text {typ : Int} {x : Vl} (h : pure' typ x) (ht : typ = 3) : x = ⟨false, 0, x.s⟩ ∧ x.s.size < 18446744073709551616 := by
  obtain ⟨nu, n, s⟩ := x
  unfold pure' at h
  rw [if_pos ht] at h
  simp only at h
  obtain ⟨rfl, rfl, h2⟩ := h
  exact ⟨rfl, h2⟩
/-- What was written is read. -/
theorem plainD_enc (typ : Int) (s : ByteArray) : ∀ (l : List Vl) (pre : List UInt8) (acc : List Vl), (∀ x ∈ l, pure' typ x) → s.data.toList = pre ++ plainB typ l → plainD typ s l.length (pre.length : Nat) acc = some (acc ++ l) := by
  intro l
  induction l with
  | nil =>
    intro pre acc _ hs
    rw [plain_nil, List.append_nil] at hs
    rw [show ([] : List Vl).length = 0 from rfl, plainD_end (by rw [← size_list, hs]), List.append_nil]
  | cons x l ih =>
    intro pre acc hp hs
    have hx := hp x (List.mem_cons_self ..)
    have hp' := fun y hy => hp y (List.mem_cons_of_mem _ hy)
    rw [plain_cons] at hs
    by_cases ht : typ = 3
    · obtain ⟨hxe, hxs⟩ := pure_text hx ht
      have ho : one typ x = putL x.s.size ++ x.s.data.toList := by unfold one; rw [if_pos ht]
      rw [ho] at hs
      have hg := getR_put (s := s) (a := pre) (r := x.s.data.toList ++ plainB typ l) hxs (by rw [hs]; simp only [List.append_assoc])
      have hsz : s.size = (pre ++ putL x.s.size).length + x.s.size + (plainB typ l).length := by
        rw [← size_list, hs]; simp only [List.length_append, size_list]; omega
      have hex : s.extract (pre ++ putL x.s.size).length ((pre ++ putL x.s.size).length + x.s.size) = x.s := by
        rw [extract_str, hs, show pre ++ (putL x.s.size ++ x.s.data.toList ++ plainB typ l) = (pre ++ putL x.s.size) ++ (x.s.data.toList ++ plainB typ l) from by simp only [List.append_assoc], List.drop_left,
          show (pre ++ putL x.s.size).length + x.s.size - (pre ++ putL x.s.size).length = x.s.data.toList.length from by rw [size_list]; omega, List.take_left, str_of]
      have hk := ih (pre ++ putL x.s.size ++ x.s.data.toList) (acc ++ [x]) hp' (by rw [hs]; simp only [List.append_assoc])
      rw [List.length_cons, plainD_text hg ht (by omega), hex, ← hxe]
      have hlen : (pre ++ putL x.s.size ++ x.s.data.toList).length = (pre ++ putL x.s.size).length + x.s.size := by rw [List.length_append, size_list]
      rw [hlen] at hk
      rw [hk, List.append_assoc]; rfl
    · obtain ⟨hxe, hxs⟩ := pure_num hx ht
      have hz := zig_bd hxs.1 hxs.2
      have ho : one typ x = putL (zigN x.n).toNat := by unfold one; rw [if_neg ht]
      rw [ho] at hs
      have hg := getR_put (s := s) (a := pre) (r := plainB typ l) (zig_lt hxs) (by rw [hs]; simp only [List.append_assoc])
      have ez : zagN (((zigN x.n).toNat : Nat) : Int) = x.n := by rw [Int.toNat_of_nonneg hz.1, zag_zig]
      have hk := ih (pre ++ putL (zigN x.n).toNat) (acc ++ [x]) hp' (by rw [hs]; simp only [List.append_assoc])
      rw [List.length_cons, plainD_num hg ht, ez, ← hxe, hk, List.append_assoc]; rfl
/-- The payload with a codec, read. -/
def payD (typ codec : Int) (s : ByteArray) (n : Nat) : Option (List Vl) :=
  if codec = 1 then plainD typ s n 0 []
  else if codec = 3 then (if (Go.DI.decD s n).2 = 0 then some ((Go.DI.decD s n).1.map fun x => ⟨false, 0, x⟩) else none)
  else if codec = 4 then (if (Go.DL.decX s n).2 = 0 then some ((Go.DL.decX s n).1.map fun x => ⟨false, x, ⟨#[]⟩⟩) else none)
  else (if (decR s n).2 = 0 then some ((decR s n).1.map fun x => ⟨false, x, ⟨#[]⟩⟩) else none)
theorem payB_1 (typ : Int) (l : List Vl) : payB typ 1 l = plainB typ l := by unfold payB; rw [if_neg (by decide), if_neg (by decide), if_neg (by decide)]
theorem payB_2 (typ : Int) (l : List Vl) : payB typ 2 l = encR (nums l) := by unfold payB; rw [if_pos rfl]
theorem payB_3 (typ : Int) (l : List Vl) : payB typ 3 l = Go.DI.encD (txts l) := by unfold payB; rw [if_neg (by decide), if_pos rfl]
theorem payB_4 (typ : Int) (l : List Vl) : payB typ 4 l = Go.DL.encX (nums l) := by unfold payB; rw [if_neg (by decide), if_neg (by decide), if_pos rfl]
section
variable (typ : Int) (s : ByteArray) (n : Nat)
theorem payD_1 : payD typ 1 s n = plainD typ s n 0 [] := by unfold payD; rw [if_pos rfl]
theorem payD_2 : payD typ 2 s n = if (decR s n).2 = 0 then some ((decR s n).1.map fun x => (⟨false, x, ⟨#[]⟩⟩ : Vl)) else none := by
  generalize hR : decR s n = R
  unfold payD; rw [hR, if_neg (by decide), if_neg (by decide), if_neg (by decide)]
theorem payD_3 : payD typ 3 s n = if (Go.DI.decD s n).2 = 0 then some ((Go.DI.decD s n).1.map fun x => (⟨false, 0, x⟩ : Vl)) else none := by
  unfold payD
  rw [if_neg (show ¬ (3 : Int) = 1 by decide), if_pos (show (3 : Int) = 3 from rfl)]
theorem payD_4 : payD typ 4 s n = if (Go.DL.decX s n).2 = 0 then some ((Go.DL.decX s n).1.map fun x => (⟨false, x, ⟨#[]⟩⟩ : Vl)) else none := by
  unfold payD
  rw [if_neg (show ¬ (4 : Int) = 1 by decide), if_neg (show ¬ (4 : Int) = 3 by decide), if_pos (show (4 : Int) = 4 from rfl)]
end
theorem nums_back {typ : Int} {l : List Vl} (h : ∀ x ∈ l, pure' typ x) (ht : typ ≠ 3) : (nums l).map (fun x => (⟨false, x, ⟨#[]⟩⟩ : Vl)) = l := by
  unfold nums
  rw [List.map_map]
  refine (List.map_congr_left fun x hx => ?_).trans (List.map_id l)
  exact (pure_num (h x hx) ht).1.symm
theorem txts_back {typ : Int} {l : List Vl} (h : ∀ x ∈ l, pure' typ x) (ht : typ = 3) : (txts l).map (fun x => (⟨false, 0, x⟩ : Vl)) = l := by
  unfold txts
  rw [List.map_map]
  refine (List.map_congr_left fun x hx => ?_).trans (List.map_id l)
  exact (pure_text (h x hx) ht).1.symm
theorem nums_i64 {typ : Int} {l : List Vl} (h : ∀ x ∈ l, pure' typ x) (ht : typ ≠ 3) : I64 (nums l) := by
  intro z hz
  simp only [nums, List.mem_map] at hz
  obtain ⟨x, hx, rfl⟩ := hz
  exact (pure_num (h x hx) ht).2
/-- What a codec that the type uses has written is read. -/
theorem payD_enc {typ codec : Int} {l : List Vl} (hu : uses typ codec = true) (hl : l.length ≤ 4096) (h : ∀ x ∈ l, pure' typ x) : payD typ codec (str (payB typ codec l)) l.length = some l := by
  have hn : (nums l).length = l.length := List.length_map _
  have ht' : (txts l).length = l.length := List.length_map _
  by_cases h1 : codec = 1
  · subst h1
    rw [payB_1, payD_1]
    have := plainD_enc typ (str (plainB typ l)) l [] [] h (by rw [str_toList]; rfl)
    exact this
  · by_cases ht : typ = 3
    · have h3 : codec = 3 := by
        unfold uses at hu
        rw [if_pos ht, decide_eq_true_iff] at hu
        omega
      subst h3
      rw [payB_3, payD_3]
      have hd := Go.DI.decD_enc (l := txts l) (by rw [ht']; exact hl) (fun w hw => by
        simp only [txts, List.mem_map] at hw
        obtain ⟨x, hx, rfl⟩ := hw
        exact (pure_text (h x hx) ht).2)
      rw [ht'] at hd
      rw [hd, if_pos rfl, txts_back h ht]
    · have h24 : codec = 2 ∨ codec = 4 := by
        unfold uses at hu
        rw [if_neg ht, decide_eq_true_iff] at hu
        omega
      have hi := nums_i64 h ht
      rcases h24 with h2 | h4
      · subst h2
        rw [payB_2, payD_2]
        have hd := decR_enc (l := nums l) (by rw [hn]; exact hl) hi
        rw [hn] at hd
        rw [hd, if_pos rfl, nums_back h ht]
      · subst h4
        rw [payB_4, payD_4]
        have hd := Go.DL.decX_enc (l := nums l) (by rw [hn]; exact hl) hi
        rw [hn] at hd
        rw [hd, if_pos rfl, nums_back h ht]
/-- The values, with the null ones in their places. -/
def weave : List Bool → List Vl → List Vl
  | [], _ => []
  | true :: b, l => ⟨true, 0, ⟨#[]⟩⟩ :: weave b l
  | false :: b, [] => vl0 :: weave b []
  | false :: b, x :: l => x :: weave b l
theorem weave_back : ∀ l : List Vl, (∀ x ∈ l, x.nu = true → x = ⟨true, 0, ⟨#[]⟩⟩) → weave (marks l) (some' l) = l
  | [], _ => rfl
  | x :: l, h => by
    have ih := weave_back l (fun y hy => h y (List.mem_cons_of_mem _ hy))
    cases hx : x.nu with
    | true =>
      have e1 : marks (x :: l) = true :: marks l := by unfold marks; rw [List.map_cons, hx]
      have e2 : some' (x :: l) = some' l := by unfold some'; rw [List.filter_cons, hx]; rfl
      rw [e1, e2, weave, ih, ← h x (List.mem_cons_self ..) hx]
    | false =>
      have e1 : marks (x :: l) = false :: marks l := by unfold marks; rw [List.map_cons, hx]
      have e2 : some' (x :: l) = x :: some' l := by unfold some'; rw [List.filter_cons, hx]; rfl
      rw [e1, e2, weave, ih]
end Go.CK
