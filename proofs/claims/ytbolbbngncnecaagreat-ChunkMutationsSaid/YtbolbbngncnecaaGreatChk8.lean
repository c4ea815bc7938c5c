/- Chunks: the sizes of payloads and chunks; a chunk's parts. -/
import Derived.Test.YtbolbbngncnecaaGreatChk7
namespace Go.CK
open Go.RowKit Go.VB Go.VarM Go.BP Go.RL Go.VS Go.VL Go.NU Go.Proofs.YtbolbbngncnecaaGreat
/-- A value of a short text and of a number in range. -/
def Vok (x : Vl) : Prop := x.s.size ≤ 64 ∧ (-9223372036854775808 ≤ x.n ∧ x.n ≤ 9223372036854775807)
theorem one_le {typ : Int} {x : Vl} (h : Vok x) : (one typ x).length ≤ 74 := by
  unfold one
  by_cases ht : typ = 3
  · rw [if_pos ht, List.length_append, size_list]
    have := putL_len10 (n := x.s.size) (by have := h.1; omega)
    have := h.1
    omega
  · rw [if_neg ht]
    have := putL_len10 (n := (zigN x.n).toNat) (zig_lt h.2)
    omega
theorem plain_le {typ : Int} {l : List Vl} (h : ∀ x ∈ l, Vok x) : (plainB typ l).length ≤ 74 * l.length := by
  induction l with
  | nil => rw [plain_nil]; exact Nat.le_refl _
  | cons x l ih =>
    have h1 := one_le (typ := typ) (h x (List.mem_cons_self ..))
    have h2 := ih (fun y hy => h y (List.mem_cons_of_mem _ hy))
    rw [plain_cons, List.length_append, List.length_cons]
    omega
theorem wrds_le64 {ws : List ByteArray} (h : ∀ x ∈ ws, x.size ≤ 64) : (Go.DI.wrds ws).length ≤ 74 * ws.length := by
  induction ws with
  | nil => rw [Go.DI.wrds_nil]; exact Nat.le_refl _
  | cons w ws ih =>
    have h1 := h w (List.mem_cons_self ..)
    have h2 := ih (fun x hx => h x (List.mem_cons_of_mem _ hx))
    have h3 := putL_len10 (n := w.size) (by omega)
    rw [Go.DI.wrds_cons, List.length_append, Go.DI.wrd, List.length_append, size_list, List.length_cons]
    omega
theorem encD_le {l : List ByteArray} (hl : l.length ≤ 4096) (h : ∀ x ∈ l, x.size ≤ 64) : (Go.DI.encD l).length ≤ 310000 := by
  have h1 := Go.DI.srt_len l
  have h2 := wrds_le64 (ws := Go.DI.srt l) (fun x hx => h x (Go.DI.srt_mem.1 hx))
  have h3 := Go.DI.packed_le (u := Go.DI.idx l) (w := Go.DI.wdt (Go.DI.srt l).length) (by rw [Go.DI.idx_len]; omega) (Go.DI.wdt_le (by omega))
  have h4 := putL_len10 (n := (Go.DI.srt l).length) (by omega)
  rw [Go.DI.encD_in hl, Go.DI.encW, List.length_append, List.length_append]
  omega
theorem nums_ok {l : List Vl} (h : ∀ x ∈ l, Vok x) : I64 (nums l) := by
  intro z hz
  simp only [nums, List.mem_map] at hz
  obtain ⟨x, hx, rfl⟩ := hz
  exact (h x hx).2
theorem txts_ok {l : List Vl} (h : ∀ x ∈ l, Vok x) : ∀ s ∈ txts l, s.size ≤ 64 := by
  intro z hz
  simp only [txts, List.mem_map] at hz
  obtain ⟨x, hx, rfl⟩ := hz
  exact (h x hx).1
theorem pay_le {typ codec : Int} {l : List Vl} (hl : l.length ≤ 4096) (h : ∀ x ∈ l, Vok x) : (payB typ codec l).length ≤ 320000 := by
  unfold payB
  by_cases h2 : codec = 2
  · rw [if_pos h2]
    have := encR_len (nums_ok h)
    have e : (nums l).length = l.length := List.length_map _
    omega
  · rw [if_neg h2]
    by_cases h3 : codec = 3
    · rw [if_pos h3]
      have := encD_le (l := txts l) (by rw [show (txts l).length = l.length from List.length_map _]; exact hl) (txts_ok h)
      omega
    · rw [if_neg h3]
      by_cases h4 : codec = 4
      · rw [if_pos h4]
        have := Go.DL.encX_len (nums_ok h)
        omega
      · rw [if_neg h4]
        have := plain_le (typ := typ) h
        omega
/-- What stands between the codec and the payload. -/
def nulB (b : List Bool) : List UInt8 := putL b.length ++ putL (b.count true) ++ (if b.count true = 0 then [] else (Go.NU.bmp b).data.toList)
theorem nulB_le {b : List Bool} (h : b.length ≤ 4096) : (nulB b).length ≤ 540 := by
  unfold nulB
  have hc := List.count_le_length (a := true) (l := b)
  have h1 := putL_len10 (n := b.length) (by omega)
  have h2 := putL_len10 (n := b.count true) (by omega)
  have hs := bmp_size b
  rw [List.length_append, List.length_append]
  by_cases h0 : b.count true = 0
  · rw [if_pos h0]; simp; omega
  · rw [if_neg h0, size_list]; omega
/-- A chunk without its checksum, in its parts. -/
theorem body_parts (typ : Int) (k : Nat) (l : List Vl) : [UInt8.ofNat k] ++ nulB (marks l) ++ payB typ k (some' l) = bodyB typ k l := by
  have hc := marks_count l
  have hs := some_len l
  unfold bodyB nulB
  rw [hc, marks_len]
  by_cases h : (some' l).length < l.length
  · rw [if_pos h, if_neg (by omega)]
    simp only [List.append_assoc]; rfl
  · rw [if_neg h, if_pos (by omega)]
    simp only [List.append_assoc]; rfl
theorem some_ok {l : List Vl} (h : ∀ x ∈ l, Vok x) : ∀ x ∈ some' l, Vok x := fun x hx => h x (List.mem_filter.1 hx).1
theorem body_le {typ : Int} {k : Nat} {l : List Vl} (hl : l.length ≤ 4096) (h : ∀ x ∈ l, Vok x) : (bodyB typ k l).length ≤ 330000 := by
  have h1 := pay_le (typ := typ) (codec := k) (Nat.le_trans (some_len l) hl) (some_ok h)
  have h2 := nulB_le (b := marks l) (by rw [marks_len]; exact hl)
  rw [← body_parts, List.length_append, List.length_append, List.length_cons, List.length_nil]
  omega
theorem build_le {typ : Int} {k : Nat} {l : List Vl} (hl : l.length ≤ 4096) (h : ∀ x ∈ l, Vok x) : (buildB typ k l).length ≤ 330004 := by
  have := body_le (typ := typ) (k := k) hl h
  unfold buildB four
  rw [List.length_append]; simp; omega
/-- Valid values have short texts. -/
theorem ok_of {typ : Int} {nu : Bool} {l : List Vl} (hT : okT typ = true) (hv : ∀ x ∈ l, chkV typ nu x = 0) (hb : ∀ x ∈ l, -9223372036854775808 ≤ x.n ∧ x.n ≤ 9223372036854775807) : ∀ x ∈ l, Vok x :=
  fun x hx => ⟨chkV_size hT (hv x hx), hb x hx⟩
/-- The best codec so far. -/
def bstep (typ : Int) (l : List Vl) (b c : Nat) : Nat := if (payB typ c l).length < (payB typ b l).length then c else b
theorem best_3 (l : List Vl) : bstep 3 l 1 3 = bestK 3 l := by
  unfold bstep bestK
  rw [if_pos rfl]; rfl
theorem best_n {typ : Int} (h : typ ≠ 3) (l : List Vl) : bstep typ l (bstep typ l 1 2) 4 = bestK typ l := by
  unfold bestK
  rw [if_neg h]
  unfold bstep
  by_cases h2 : (payB typ 2 l).length < (payB typ 1 l).length
  · rw [if_pos (show (payB typ ((2 : Nat) : Int) l).length < (payB typ ((1 : Nat) : Int) l).length from h2), if_pos h2]; rfl
  · rw [if_neg (show ¬ (payB typ ((2 : Nat) : Int) l).length < (payB typ ((1 : Nat) : Int) l).length from h2), if_neg h2]; rfl
end Go.CK
