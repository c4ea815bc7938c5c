/- Layer 16, the statements' own: the sequence numbers of records as values. -/
import Derived.Test.YtnmlajmaffiigaaGreatDoorBtP
import Derived.Test.YtnmlajmaffiigaaGreatDoorZoW7
import Derived.Test.YtnmlajmaffiigaaGreatDoorGc
import Derived.Test.YtnmlajmaffiigaaGreatDoorSchJ
import Derived.Test.YtnmlajmaffiigaaGreatDoorChk
import Derived.Test.YtnmlajmaffiigaaGreatDoorBt8b
namespace Go.MP
open Go.VL Go.MK Go.VS Go.RS Go.ST Go.CK Go.SC
/-- The sequence numbers as values. -/
def seqV (l : List Rc) : List Vl := l.map fun r => ⟨false, r.seq, ⟨#[]⟩⟩
theorem seqV_len (l : List Rc) : (seqV l).length = l.length := List.length_map _
theorem seqV_snoc {j : Nat} {l : List Rc} {r : Rc} (h : l[j]? = some r) : seqV (l.take (j + 1)) = seqV (l.take j) ++ [⟨false, r.seq, ⟨#[]⟩⟩] := by
  unfold seqV; rw [List.take_add_one, h, List.map_append]; rfl
end Go.MP
namespace Go.Proofs.YtnmlajmaffiigaaGreatDoor
open Go.RowKit Go.VB Go.VS Go.VL Go.SC Go.CK Go.ST Go.MK Go.RS Go.MP
set_option linter.constructorNameAsVariable false
end Go.Proofs.YtnmlajmaffiigaaGreatDoor

namespace Go.MP
open Go.VL Go.VarM Go.VS
/-- The bytes of a rank. -/
def putK (v : Vl) (q : Nat) : List UInt8 := putV v.nu v.n v.s ++ putL q
end Go.MP
namespace Go.Proofs.YtnmlajmaffiigaaGreatDoor
open Go.RowKit Go.VB Go.VarM Go.VS Go.VL Go.SC Go.CK Go.ST Go.MK Go.RS Go.ZN Go.MP
set_option linter.constructorNameAsVariable false
end Go.Proofs.YtnmlajmaffiigaaGreatDoor

namespace Go.MP
open Go.RowKit Go.VB Go.VarM Go.VS Go.VL Go.SC Go.CK Go.ST Go.MK Go.RS Go.ZN
theorem wf_bd {n : Int} (h : -9223372036854775808 ≤ n ∧ n ≤ 9223372036854775807) : (Lit.int .i64 n).wf = true := WalkArith.wf_i64 ⟨h.1, h.2⟩
/-- The column of the sequence numbers. -/
def seqC : Col := ⟨str [115, 101, 113], 1, 0, false⟩
/-- Column i; behind the last one the sequence numbers. -/
def colT (cs : List Col) (i : Nat) : Col := if i < cs.length then cs.getD i col0 else seqC
theorem colT_lt {cs : List Col} {i : Nat} (h : i < cs.length) : colT cs i = cs.getD i col0 := if_pos h
theorem colT_seq {cs : List Col} {i : Nat} (h : ¬ i < cs.length) : colT cs i = seqC := if_neg h
/-- Its values. -/
def colV (cs : List Col) (l : List Rc) (i : Nat) : List Vl := if i < cs.length then Go.RS.colL i l else seqV l
theorem colV_lt {cs : List Col} {l : List Rc} {i : Nat} (h : i < cs.length) : colV cs l i = Go.RS.colL i l := if_pos h
theorem colV_seq {cs : List Col} {l : List Rc} {i : Nat} (h : ¬ i < cs.length) : colV cs l i = seqV l := if_neg h
theorem colV_len (cs : List Col) (l : List Rc) (i : Nat) : (colV cs l i).length = l.length := by
  unfold colV; split
  · exact List.length_map _
  · exact seqV_len l
/-- Its chunk; the chunks of the first n columns. -/
def chB (cs : List Col) (l : List Rc) (i : Nat) : List UInt8 := bestB (colT cs i).ty (colV cs l i)
def chs (cs : List Col) (l : List Rc) (n : Nat) : List (List UInt8) := (List.range n).map (chB cs l)
theorem chs_len (cs : List Col) (l : List Rc) (n : Nat) : (chs cs l n).length = n := by unfold chs; rw [List.length_map, List.length_range]
theorem chs_snoc (cs : List Col) (l : List Rc) (n : Nat) : chs cs l (n + 1) = chs cs l n ++ [chB cs l n] := by unfold chs; rw [List.range_succ, List.map_append]; rfl
/-- The lengths, one after the other. -/
def lensB (ch : List (List UInt8)) : List UInt8 := ch.flatMap fun b => putL b.length
theorem lensB_snoc (ch : List (List UInt8)) (b : List UInt8) : lensB (ch ++ [b]) = lensB ch ++ putL b.length := by unfold lensB; rw [List.flatMap_append]; simp
/-- The zones of the first n columns. -/
def zns (cs : List Col) (l : List Rc) (n : Nat) : List Zn := (List.range n).map fun i => zof (cs.getD i col0).ty (Go.RS.colL i l)
theorem zns_len (cs : List Col) (l : List Rc) (n : Nat) : (zns cs l n).length = n := by unfold zns; rw [List.length_map, List.length_range]
theorem zns_snoc (cs : List Col) (l : List Rc) (n : Nat) : zns cs l (n + 1) = zns cs l n ++ [zof (cs.getD n col0).ty (Go.RS.colL n l)] := by unfold zns; rw [List.range_succ, List.map_append]; rfl
def znsB (zs : List Zn) : List UInt8 := zs.flatMap putZ
theorem znsB_snoc (zs : List Zn) (z : Zn) : znsB (zs ++ [z]) = znsB zs ++ putZ z := by unfold znsB; rw [List.flatMap_append]; simp
/-- What a footer says. -/
structure Inf where
  rows : Nat
  zs : List Zn
  lo : Vl
  lq : Nat
  hi : Vl
  hq : Nat
def rc0 : Rc := ⟨0, []⟩
def infOf (cs : List Col) (key : Int) (l : List Rc) : Inf := ⟨l.length, zns cs l cs.length, keyV key.toNat (l.getD 0 rc0), (l.getD 0 rc0).seq.toNat, keyV key.toNat (l.getD (l.length - 1) rc0), (l.getD (l.length - 1) rc0).seq.toNat⟩
/-- The footer up to its checksum. -/
def footB (id : Nat) (ch : List (List UInt8)) (f : Inf) : List UInt8 := four id ++ putL f.rows ++ lensB ch ++ znsB f.zs ++ (putK f.lo f.lq ++ putK f.hi f.hq)
def sealB (b : List UInt8) : List UInt8 := b ++ four (crcL b)
def mkB : List UInt8 := [77, 80, 84, 49]
/-- The file of these chunks and this footer. -/
def fileB (ch : List (List UInt8)) (b : List UInt8) : List UInt8 := mkB ++ ch.flatten ++ sealB b ++ four (sealB b).length ++ mkB
def fileOf (cs : List Col) (key : Int) (l : List Rc) : List UInt8 := fileB (chs cs l (cs.length + 1)) (footB (IDN cs key) (chs cs l (cs.length + 1)) (infOf cs key l))
/-- What Encode finds: the code, the file. -/
def encFE (cs : List Col) (key : Int) (l : List Rc) : Nat := if chkS cs key ≠ 0 then chkS cs key else if 1024 < l.length then 7 else if l.length = 0 ∨ srtdB cs key l = false then 1 else 0
def encF (cs : List Col) (key : Int) (l : List Rc) : ByteArray := if encFE cs key l = 0 then str (fileOf cs key l) else ⟨#[]⟩
theorem encFE_sch {cs : List Col} {key : Int} {l : List Rc} (h : chkS cs key ≠ 0) : encFE cs key l = chkS cs key := if_pos h
theorem encFE_full {cs : List Col} {key : Int} {l : List Rc} (h : chkS cs key = 0) (h2 : 1024 < l.length) : encFE cs key l = 7 := by unfold encFE; rw [if_neg (by simp [h]), if_pos h2]
theorem encFE_arg {cs : List Col} {key : Int} {l : List Rc} (h : chkS cs key = 0) (h2 : ¬ 1024 < l.length) (h3 : l.length = 0 ∨ srtdB cs key l = false) : encFE cs key l = 1 := by unfold encFE; rw [if_neg (by simp [h]), if_neg h2, if_pos h3]
theorem encFE_ok {cs : List Col} {key : Int} {l : List Rc} (h2 : ¬ 1024 < l.length) (h3 : l.length ≠ 0) (h4 : srtdB cs key l = true) : encFE cs key l = 0 := by
  have h : chkS cs key = 0 := by
    unfold srtdB at h4
    exact (valR_sound (Bool.and_eq_true_iff.1 h4).1).1
  unfold encFE; rw [if_neg (by simp [h]), if_neg h2, if_neg (by simp [h3, h4])]
theorem encFE_zero {cs : List Col} {key : Int} {l : List Rc} (h : encFE cs key l = 0) : chkS cs key = 0 ∧ l.length ≤ 1024 ∧ l.length ≠ 0 ∧ srtdB cs key l = true := by
  unfold encFE at h
  split at h
  · contradiction
  · split at h
    · cases h
    · split at h
      · cases h
      · rename_i h1 h2 h3
        refine ⟨by simpa using h1, by omega, fun e => h3 (.inl e), ?_⟩
        cases h4 : srtdB cs key l with
        | true => rfl
        | false => exact absurd (.inr h4) h3
theorem encF_bad {cs : List Col} {key : Int} {l : List Rc} (h : encFE cs key l ≠ 0) : encF cs key l = ⟨#[]⟩ := if_neg h
theorem encF_ok {cs : List Col} {key : Int} {l : List Rc} (h : encFE cs key l = 0) : encF cs key l = str (fileOf cs key l) := if_pos h
/-! ### sorted records: each column is valid -/
theorem fe_zero : ∀ {l : List Nat}, fe l = 0 → ∀ e ∈ l, e = 0
  | [], _, e, h => by cases h
  | a :: l, h, e, he => by
    unfold fe at h
    by_cases ha : a = 0
    · rw [if_pos ha] at h
      rcases List.mem_cons.1 he with rfl | he
      · exact ha
      · exact fe_zero h e he
    · rw [if_neg ha] at h; exact absurd h ha
theorem chkRow_at {cs : List Col} {l : List Vl} (h : chkRow cs l = 0) {k : Nat} {y : Vl} (hy : l[k]? = some y) : chkV (cs.getD k col0).ty (cs.getD k col0).nu y = 0 := by
  have hl := chkRow_zero h
  unfold chkRow at h
  rw [if_pos hl] at h
  have hk : k < l.length := (List.getElem?_eq_some_iff.1 hy).1
  have := fe_zero h _ (List.mem_map.2 ⟨k, List.mem_range.2 hk, rfl⟩)
  rwa [show l.getD k vl0 = y from by rw [List.getD_eq_getElem?_getD, hy]; rfl] at this
structure Srt (cs : List Col) (key : Int) (l : List Rc) : Prop where
  sch : chkS cs key = 0
  ok : ∀ r ∈ l, okRec cs r = true
  asc : ∀ (i : Nat) (a b : Rc), l[i]? = some a → l[i + 1]? = some b → cmpRec (keyT cs key) key.toNat a b < 0
theorem srt_of {cs : List Col} {key : Int} {l : List Rc} (h : srtdB cs key l = true) : Srt cs key l := by
  unfold srtdB at h
  obtain ⟨h1, h2⟩ := Bool.and_eq_true_iff.1 h
  obtain ⟨h3, h4⟩ := valR_sound h1
  exact ⟨h3, h4, ascR_sound h2⟩
theorem okT_of {cs : List Col} {key : Int} (h : chkS cs key = 0) (i : Nat) : okT (colT cs i).ty = true := by
  unfold colT
  split
  · rename_i hi
    exact (chkCol_ok ((chkS_ok h).2.2.1 i hi)).2.2.1
  · decide
theorem okRec_all {cs : List Col} {r : Rc} (h : okRec cs r = true) : 0 ≤ r.seq ∧ r.seq ≤ 1099511627776 ∧ chkRow cs r.row = 0 := of_decide_eq_true h
theorem col_ok {cs : List Col} {l : List Rc} (ho : ∀ r ∈ l, okRec cs r = true) (i : Nat) : ∀ x ∈ colV cs l i, chkV (colT cs i).ty (colT cs i).nu x = 0 := by
  intro x hx
  by_cases hi : i < cs.length
  · rw [colV_lt hi] at hx
    rw [colT_lt hi]
    obtain ⟨r, hr, rfl⟩ := List.mem_map.1 hx
    have h := (okRec_all (ho r hr)).2.2
    have hl := chkRow_zero h
    have hg : r.row[i]? = some (r.row[i]'(by omega)) := List.getElem?_eq_getElem _
    have hgd : r.row.getD i ⟨true, 0, ⟨#[]⟩⟩ = r.row[i]'(by omega) := by rw [List.getD_eq_getElem?_getD, hg]; rfl
    rw [hgd]
    exact chkRow_at h hg
  · rw [colV_seq hi] at hx
    rw [colT_seq hi]
    obtain ⟨r, hr, rfl⟩ := List.mem_map.1 hx
    show chk 1 false false r.seq ⟨#[]⟩ = 0
    rw [chk_val (by decide), if_neg (by rintro (h | h); exact absurd h.1 (by decide); exact h.2 rfl)]
    rfl
theorem col_bd {cs : List Col} {l : List Rc} (ho : ∀ r ∈ l, okRec cs r = true) (hb : InR l) (i : Nat) : ∀ x ∈ colV cs l i, -9223372036854775808 ≤ x.n ∧ x.n ≤ 9223372036854775807 := by
  intro x hx
  by_cases hi : i < cs.length
  · rw [colV_lt hi] at hx
    obtain ⟨r, hr, rfl⟩ := List.mem_map.1 hx
    by_cases hk : i < r.row.length
    · rw [List.getD_eq_getElem?_getD, List.getElem?_eq_getElem hk]
      exact hb r hr _ (List.getElem_mem _)
    · rw [List.getD_eq_getElem?_getD, List.getElem?_eq_none (by omega)]
      exact ⟨by decide, by decide⟩
  · rw [colV_seq hi] at hx
    obtain ⟨r, hr, rfl⟩ := List.mem_map.1 hx
    have := okRec_all (ho r hr)
    exact ⟨by show _ ≤ r.seq; omega, by show r.seq ≤ _; omega⟩
theorem col_E {cs : List Col} {key : Int} {l : List Rc} (h : chkS cs key = 0) (hl : l.length ≤ 1024) (ho : ∀ r ∈ l, okRec cs r = true) (i : Nat) : encE (colT cs i).ty (colT cs i).nu (colV cs l i) = 0 :=
  encE_none (okT_of h i) (by rw [colV_len]; omega) (col_ok ho i)
theorem col_vok {cs : List Col} {key : Int} {l : List Rc} (h : chkS cs key = 0) (ho : ∀ r ∈ l, okRec cs r = true) (hb : InR l) (i : Nat) : ∀ x ∈ colV cs l i, Vok x := ok_of (okT_of h i) (col_ok ho i) (col_bd ho hb i)
/-! ### sizes -/
theorem chB_len {cs : List Col} {key : Int} {l : List Rc} (h : chkS cs key = 0) (hl : l.length ≤ 1024) (ho : ∀ r ∈ l, okRec cs r = true) (hb : InR l) (i : Nat) : 5 ≤ (chB cs l i).length ∧ (chB cs l i).length ≤ 330004 := by
  obtain ⟨k, _, _, _, h4, _⟩ := best_spec (colT cs i).ty (colV cs l i)
  unfold chB
  rw [h4]
  exact ⟨build_len _ _ _, build_le (by rw [colV_len]; omega) (col_vok h ho hb i)⟩
theorem flat_le {α : Type} {ls : List (List α)} {b : Nat} (h : ∀ x ∈ ls, x.length ≤ b) : ls.flatten.length ≤ ls.length * b := by
  induction ls with
  | nil => simp
  | cons a ls ih =>
    have h1 := ih fun x hx => h x (List.mem_cons_of_mem _ hx)
    have h2 := h a (List.mem_cons_self ..)
    rw [List.flatten_cons, List.length_append, List.length_cons, Nat.add_mul]
    omega
theorem fmap_le {α β : Type} {l : List α} {f : α → List β} {b : Nat} (h : ∀ x ∈ l, (f x).length ≤ b) : (l.flatMap f).length ≤ l.length * b := by
  rw [List.flatMap_def]
  have := flat_le (ls := l.map f) (b := b) fun x hx => by
    obtain ⟨y, hy, rfl⟩ := List.mem_map.1 hx
    exact h y hy
  rwa [List.length_map] at this
theorem chs_mem {cs : List Col} {l : List Rc} {n : Nat} {b : List UInt8} (h : b ∈ chs cs l n) : ∃ i, i < n ∧ b = chB cs l i := by
  obtain ⟨i, hi, rfl⟩ := List.mem_map.1 h
  exact ⟨i, List.mem_range.1 hi, rfl⟩
/-- What is known of a zone of at most 1024 valid values. -/
structure ZBd (z : Zn) : Prop where
  r0 : 0 ≤ z.rows
  r1 : z.rows ≤ 1024
  u0 : 0 ≤ z.nulls
  u1 : z.nulls ≤ 1024
  mn : Nrm z.mn
  mx : Nrm z.mx
  mi : -9223372036854775808 ≤ z.mn.n ∧ z.mn.n ≤ 9223372036854775807
  xi : -9223372036854775808 ≤ z.mx.n ∧ z.mx.n ≤ 9223372036854775807
  ms : z.mn.s.size ≤ 64
  xs : z.mx.s.size ≤ 64
theorem zof_bd {ty : Int} {l : List Vl} (hl : l.length ≤ 1024) (h : ∀ x ∈ l, Vok x) : ZBd (zof ty l) := by
  have hn := stz_le ty l
  have hm : ∀ m, (∀ sg, isM ty sg l m → (-9223372036854775808 ≤ m.n ∧ m.n ≤ 9223372036854775807) ∧ m.s.size ≤ 64) := fun m sg hm => by
    rcases hm with ⟨_, rfl⟩ | ⟨h1, _, _⟩
    · exact ⟨⟨by decide, by decide⟩, by decide⟩
    · exact ⟨(h m h1).2, (h m h1).1⟩
  obtain ⟨i1, i2⟩ := isM_zof ty l
  obtain ⟨n1, n2⟩ := stz_nrm ty l
  exact ⟨Int.natCast_nonneg _, (by show (l.length : Int) ≤ 1024; omega), Int.natCast_nonneg _, (by show ((stz ty l).1 : Int) ≤ 1024; omega), n1, n2, (hm _ _ i1).1, (hm _ _ i2).1, (hm _ _ i1).2, (hm _ _ i2).2⟩
theorem ZBd.len {z : Zn} (h : ZBd z) : (putZ z).length ≤ 190 := by
  have l1 := putL_len10 (n := z.rows.toNat) (by have := h.r1; omega)
  have l2 := putL_len10 (n := z.nulls.toNat) (by have := h.u1; omega)
  have l3 := Go.ZN.putV_len (b := z.mn.nu) (s := z.mn.s) (wf_bd h.mi) (by have := h.ms; omega)
  have l4 := Go.ZN.putV_len (b := z.mx.nu) (s := z.mx.s) (wf_bd h.xi) (by have := h.xs; omega)
  have h3 := h.ms
  have h4 := h.xs
  unfold putZ
  simp only [List.length_append]
  omega
theorem zns_mem {cs : List Col} {l : List Rc} {n : Nat} {z : Zn} (h : z ∈ zns cs l n) : ∃ i, i < n ∧ z = zof (cs.getD i col0).ty (Go.RS.colL i l) := by
  obtain ⟨i, hi, rfl⟩ := List.mem_map.1 h
  exact ⟨i, List.mem_range.1 hi, rfl⟩
theorem zns_bd {cs : List Col} {key : Int} {l : List Rc} (h : chkS cs key = 0) (hl : l.length ≤ 1024) (ho : ∀ r ∈ l, okRec cs r = true) (hb : InR l) : ∀ z ∈ zns cs l cs.length, ZBd z := by
  intro z hz
  obtain ⟨i, hi, rfl⟩ := zns_mem hz
  have := zof_bd (ty := (cs.getD i col0).ty) (l := Go.RS.colL i l) (by rw [← colV_lt hi, colV_len]; exact hl) (by rw [← colV_lt hi]; exact col_vok h ho hb i)
  exact this
theorem putK_len {v : Vl} {q : Nat} (hv : Vok v) (hq : q ≤ 1099511627776) : (putK v q).length ≤ 100 := by
  have l1 := Go.ZN.putV_len (b := v.nu) (s := v.s) (wf_bd hv.2) (by have := hv.1; omega)
  have l2 := putL_len10 (n := q) (by omega)
  have := hv.1
  unfold putK
  rw [List.length_append]
  omega
theorem key_ok {cs : List Col} {key : Int} {r : Rc} (h : chkS cs key = 0) (ho : okRec cs r = true) : ∃ x, r.row[key.toNat]? = some x ∧ keyV key.toNat r = x ∧ chkV (keyT cs key) (cs.getD key.toNat col0).nu x = 0 := by
  obtain ⟨_, _, _, h4, h5⟩ := chkS_ok h
  have hr := (okRec_all ho).2.2
  have hl := chkRow_zero hr
  have hk : key.toNat < r.row.length := by omega
  have hg : r.row[key.toNat]? = some r.row[key.toNat] := List.getElem?_eq_getElem hk
  exact ⟨_, hg, keyV_at hg, chkRow_at hr hg⟩
theorem key_vok {cs : List Col} {key : Int} {r : Rc} {l : List Rc} (h : chkS cs key = 0) (ho : ∀ r ∈ l, okRec cs r = true) (hb : InR l) (hr : r ∈ l) : Vok (keyV key.toNat r) := by
  obtain ⟨x, h1, h2, h3⟩ := key_ok h (ho r hr)
  obtain ⟨_, _, _, h4, h5⟩ := chkS_ok h
  have hT := okT_of h key.toNat
  rw [colT_lt (by omega)] at hT
  rw [h2]
  exact ⟨Go.CK.chkV_size hT h3, hb r hr x (List.mem_of_getElem? h1)⟩
end Go.MP

namespace Go.MP
open Go.RowKit Go.VB Go.VarM Go.VS Go.VL Go.SC Go.CK Go.ST Go.MK Go.RS Go.ZN
/-! ### reading behind the first bytes of a text is reading in the rest -/
section
variable {F G : ByteArray} {k : Nat}
structure Tail (F G : ByteArray) (k : Nat) : Prop where
  le : k ≤ F.size
  eq : G = F.extract k F.size
theorem Tail.list (h : Tail F G k) : G.data.toList = F.data.toList.drop k := by
  rw [h.eq, extract_list, List.take_of_length_le]
  rw [List.length_drop, size_list]; exact Nat.le_refl _
theorem Tail.size (h : Tail F G k) : G.size = F.size - k := by rw [← size_list, h.list, List.length_drop, size_list]
theorem Tail.getR (h : Tail F G k) {i : Int} (hi : 0 ≤ i) : Go.VarM.getR F (k + i) = ((Go.VarM.getR G i).1, (if (Go.VarM.getR G i).2.2 = 0 then k + (Go.VarM.getR G i).2.1 else 0), (Go.VarM.getR G i).2.2) := by
  have hs := h.size
  have hle := h.le
  unfold Go.VarM.getR
  by_cases ho : (G.size : Int) < i
  · rw [if_pos (show (k : Int) + i < 0 ∨ (F.size : Int) < k + i from .inr (by omega)), if_pos (show i < 0 ∨ (G.size : Int) < i from .inr ho)]; rfl
  · rw [if_neg (show ¬ ((k : Int) + i < 0 ∨ (F.size : Int) < k + i) by omega), if_neg (show ¬ (i < 0 ∨ (G.size : Int) < i) by omega)]
    have hd : F.data.toList.drop ((k : Int) + i).toNat = G.data.toList.drop i.toNat := by rw [h.list, List.drop_drop, show ((k : Int) + i).toNat = k + i.toNat by omega]
    rw [hd]
    by_cases h0 : (getL (G.data.toList.drop i.toNat)).2.2 = 0
    · simp only [h0, if_true]
      rw [Int.add_assoc]
    · simp only [h0, if_false]
end
/-! ### the parts of a footer behind the Id -/
section
variable (G : ByteArray)
end
end Go.MP

namespace Go.Proofs.YtnmlajmaffiigaaGreatDoor
open Go.RowKit Go.VB Go.VL Go.VS Go.ZN Go.CK Go.VarM Go.MP
end Go.Proofs.YtnmlajmaffiigaaGreatDoor
namespace Go.MP
open Go.RowKit Go.VB Go.VarM Go.VS Go.VL Go.SC Go.CK Go.ST Go.MK Go.RS Go.ZN Go.Proofs.YtnmlajmaffiigaaGreatDoor
/-! ### places in a text -/
theorem cut_at (a p r : List UInt8) {i j : Nat} (hi : i = a.length) (hj : j = a.length + p.length) : (str (a ++ (p ++ r))).extract i j = str p := by
  subst hi hj
  rw [extract_str, str_toList, List.drop_left, Nat.add_sub_cancel_left, List.take_left]
theorem four_len (n : Nat) : (four n).length = 4 := rfl
theorem mk_len : mkB.length = 4 := rfl
theorem seal_len (b : List UInt8) : (sealB b).length = b.length + 4 := by unfold sealB; rw [List.length_append, four_len]
/-! ### what surrounds the footer -/
section
variable {ch : List (List UInt8)} {b data rest file : List UInt8}
/-- A text between two marks, with a sealed footer at its end. -/
def around (data b : List UInt8) : List UInt8 := mkB ++ (data ++ (sealB b ++ (four (sealB b).length ++ mkB)))
theorem file_around (ch : List (List UInt8)) (b : List UInt8) : fileB ch b = around ch.flatten b := by unfold fileB around; simp only [List.append_assoc]
theorem around_size : (str (around data b)).size = data.length + b.length + 16 := by
  unfold around
  rw [str_size]
  simp only [List.length_append, four_len, mk_len, seal_len]
  omega
end
/-! ### the footer -/
/-- What is known of a footer's contents that can be written and read. -/
structure IBd (m : Nat) (ch : List (List UInt8)) (f : Inf) : Prop where
  n : f.rows ≤ 1024
  cl : ch.length = m + 1
  lens : ∀ b ∈ ch, b.length ≤ 330004
  zl : f.zs.length = m
  zs : ∀ z ∈ f.zs, ZBd z
  lo : Vok f.lo
  l0 : f.lo.nu = true → f.lo.n = 0 ∧ f.lo.s = ⟨#[]⟩
  lq : f.lq ≤ 1099511627776
  hi : Vok f.hi
  h0 : f.hi.nu = true → f.hi.n = 0 ∧ f.hi.s = ⟨#[]⟩
  hq : f.hq ≤ 1099511627776
/-- The footer behind the Id. -/
def bodyB (ch : List (List UInt8)) (f : Inf) : List UInt8 := putL f.rows ++ (lensB ch ++ (znsB f.zs ++ (putK f.lo f.lq ++ putK f.hi f.hq)))
theorem foot_body (id : Nat) (ch : List (List UInt8)) (f : Inf) : footB id ch f = four id ++ Go.MP.bodyB ch f := by unfold footB Go.MP.bodyB; simp only [List.append_assoc]
theorem body_len {m : Nat} {ch : List (List UInt8)} {f : Inf} (h : IBd m ch f) (h12 : m ≤ 12) (id : Nat) : 4 ≤ (footB id ch f).length ∧ (footB id ch f).length ≤ 10000 := by
  have l1 := putL_len10 (n := f.rows) (by have := h.n; omega)
  have l2 : (lensB ch).length ≤ ch.length * 10 := fmap_le fun b hb => putL_len10 (by have := h.lens b hb; omega)
  have l3 : (znsB f.zs).length ≤ f.zs.length * 190 := fmap_le fun z hz => (h.zs z hz).len
  have l4 := putK_len h.lo h.lq
  have l5 := putK_len h.hi h.hq
  rw [h.cl] at l2
  rw [h.zl] at l3
  rw [foot_body]
  unfold Go.MP.bodyB
  simp only [List.length_append, four_len]
  omega
end Go.MP

namespace Go.MP
open Go.RowKit Go.VB Go.VarM Go.VS Go.VL Go.SC Go.CK Go.ST Go.MK Go.RS Go.ZN Go.Proofs.YtnmlajmaffiigaaGreatDoor
section
variable {cs : List Col} {key : Int} {l : List Rc}
theorem rc_first (h0 : l.length ≠ 0) : l.getD 0 rc0 ∈ l ∧ l[0]? = some (l.getD 0 rc0) := by
  have h : 0 < l.length := by omega
  rw [List.getD_eq_getElem?_getD, List.getElem?_eq_getElem h]
  exact ⟨List.getElem_mem h, rfl⟩
theorem rc_last (h0 : l.length ≠ 0) : l.getD (l.length - 1) rc0 ∈ l ∧ l[l.length - 1]? = some (l.getD (l.length - 1) rc0) := by
  have h : l.length - 1 < l.length := by omega
  rw [List.getD_eq_getElem?_getD, List.getElem?_eq_getElem h]
  exact ⟨List.getElem_mem h, rfl⟩
theorem key_form {r : Rc} (hc : chkS cs key = 0) (ho : okRec cs r = true) : (keyV key.toNat r).nu = true → (keyV key.toNat r).n = 0 ∧ (keyV key.toNat r).s = ⟨#[]⟩ := by
  intro hn
  obtain ⟨x, _, h2, h3⟩ := key_ok hc ho
  obtain ⟨_, _, _, h4, h5⟩ := chkS_ok hc
  have hT := okT_of hc key.toNat
  rw [colT_lt (by omega)] at hT
  rw [h2] at hn ⊢
  have := chk_null hT h3 hn
  rw [this]
  exact ⟨rfl, rfl⟩
theorem ibd_of (S : Srt cs key l) (hl : l.length ≤ 1024) (h0 : l.length ≠ 0) (hb : InR l) : IBd cs.length (chs cs l (cs.length + 1)) (infOf cs key l) := by
  obtain ⟨f1, _⟩ := rc_first h0
  obtain ⟨g1, _⟩ := rc_last h0
  have q1 := okRec_all (S.ok _ f1)
  have q2 := okRec_all (S.ok _ g1)
  refine ⟨hl, chs_len .., fun b hb' => ?_, zns_len .., zns_bd S.sch hl S.ok hb, key_vok S.sch S.ok hb f1, key_form S.sch (S.ok _ f1), ?_, key_vok S.sch S.ok hb g1, key_form S.sch (S.ok _ g1), ?_⟩
  · obtain ⟨i, _, rfl⟩ := chs_mem hb'
    exact (chB_len S.sch hl S.ok hb i).2
  · show (l.getD 0 rc0).seq.toNat ≤ _
    omega
  · show (l.getD (l.length - 1) rc0).seq.toNat ≤ _
    omega
end
/-! ### one byte changed -/
section
variable {cs : List Col} {key : Int} {l : List Rc}
end
end Go.MP

namespace Go.MP
open Go.RowKit Go.VB Go.VarM Go.VS Go.VL Go.SC Go.CK Go.ST Go.MK Go.RS Go.ZN Go.NU Go.Proofs.YtnmlajmaffiigaaGreatDoor
/-! ### the bound -/
/-- The greatest sizes of a value: in its binary form, within a chunk. -/
def vz (ty : Int) : Nat := if ty = 3 then 67 else 12
def mz (ty : Int) : Nat := if ty = 3 then 65 else 10
/-- What a column adds. -/
def bndC (n : Nat) (c : Col) : Nat := 16 + 2 * vz c.ty + n * mz c.ty + (n + 7) / 8
def bndN (cs : List Col) (n : Nat) : Nat := 192 + 10 * n + (n + 7) / 8 + (cs.map (bndC n)).sum
theorem bndN_nil (n : Nat) : bndN [] n = 192 + 10 * n + (n + 7) / 8 := rfl
theorem bndN_le {n : Nat} (hn : n ≤ 1024) : ∀ cs : List Col, bndN cs n ≤ 10600 + cs.length * 68000
  | [] => by rw [bndN_nil]; simp; omega
  | c :: cs => by
    have ih := bndN_le hn cs
    have h1 : vz c.ty ≤ 67 := by unfold vz; split <;> omega
    have h2 : mz c.ty ≤ 65 := by unfold mz; split <;> omega
    have h3 : n * mz c.ty ≤ n * 65 := Nat.mul_le_mul_left _ h2
    have hb : bndC n c ≤ 68000 := by unfold bndC; omega
    unfold bndN at ih ⊢
    rw [List.map_cons, List.sum_cons, List.length_cons, Nat.add_mul]
    omega
theorem one_mz {typ : Int} {x : Vl} (h : Vok x) : (one typ x).length ≤ mz typ := by
  unfold one mz
  by_cases ht : typ = 3
  · rw [if_pos ht, if_pos ht, List.length_append, size_list]
    have := putL_len (n := x.s.size) 1 (by have := h.1; omega) (by decide)
    have := h.1
    omega
  · rw [if_neg ht, if_neg ht]
    exact putL_len10 (n := (zigN x.n).toNat) (Go.RL.zig_lt h.2)
theorem plain_mz {typ : Int} {l : List Vl} (h : ∀ x ∈ l, Vok x) : (plainB typ l).length ≤ l.length * mz typ := fmap_le fun x hx => one_mz (h x hx)
theorem best_mz {typ : Int} {l : List Vl} (hl : l.length ≤ 1024) (h : ∀ x ∈ l, Vok x) : (bestB typ l).length ≤ 9 + l.length * mz typ + (l.length + 7) / 8 := by
  obtain ⟨k, _, _, _, h4, h5⟩ := best_spec typ l
  have hu : uses typ ((1 : Nat) : Int) = true := by
    by_cases ht : typ = 3
    · exact (uses_t3 ht).1
    · exact (uses_tn ht).1
  have h6 := (h5 1 hu).1
  have h7 := plain_mz (typ := typ) (l := some' l) (some_ok h)
  have h8 : (some' l).length * mz typ ≤ l.length * mz typ := Nat.mul_le_mul_right _ (some_len l)
  have hc := List.count_le_length (a := true) (l := marks l)
  rw [marks_len] at hc
  have p1 := putL_len (n := (marks l).length) 2 (by rw [marks_len]; omega) (by decide)
  have p2 := putL_len (n := (marks l).count true) 2 (by omega) (by decide)
  have hs := bmp_size (marks l)
  rw [marks_len] at hs
  have hb : (buildB typ ((1 : Nat) : Int) l).length = (Go.CK.bodyB typ ((1 : Nat) : Int) l).length + 4 := by unfold buildB; rw [List.length_append]; rfl
  have hp : payB typ ((1 : Nat) : Int) (some' l) = plainB typ (some' l) := payB_1 typ _
  have hn : (nulB (marks l)).length ≤ 4 + (l.length + 7) / 8 := by
    unfold nulB
    rw [List.length_append, List.length_append]
    by_cases h0 : (marks l).count true = 0
    · rw [if_pos h0]; simp only [List.length_nil]; omega
    · rw [if_neg h0, size_list]; omega
  rw [h4]
  rw [hb, ← body_parts, List.length_append, List.length_append, List.length_cons, List.length_nil, hp] at h6
  omega
theorem putV_vz {typ : Int} {nu : Bool} {x : Vl} (hT : okT typ = true) (hv : chkV typ nu x = 0 ∨ x = Go.ZN.nulV) (hx : Vok x) : (putV x.nu x.n x.s).length ≤ vz typ := by
  have hnul : (putV true x.n x.s).length ≤ vz typ := by
    show 1 ≤ vz typ
    unfold vz; split <;> omega
  obtain ⟨xn, n, s⟩ := x
  cases xn with
  | true => exact hnul
  | false =>
    rcases hv with hv | hv
    · unfold chkV at hv
      simp only at hv
      rw [chk_val hT] at hv
      have hz := putL_len10 (n := (zigN n).toNat) (Go.RL.zig_lt hx.2)
      have hs1 := putL_len (n := s.size) 1 (by have := hx.1; simp only at this; omega) (by decide)
      have hx1 := hx.1
      simp only at hx1
      show ([1] ++ putL (zigN n).toNat ++ putL s.size ++ s.data.toList).length ≤ _
      simp only [List.length_append, List.length_cons, List.length_nil, size_list]
      unfold vz
      by_cases h3 : typ = 3
      · rw [if_pos h3]
        by_cases h0 : n = 0
        · subst h0
          have : (putL (zigN 0).toNat).length = 1 := by rw [show (zigN 0).toNat = 0 from rfl, putL_lt (by decide)]; rfl
          omega
        · rw [if_pos (.inl ⟨h3, h0⟩)] at hv; cases hv
      · rw [if_neg h3]
        by_cases h0 : s.size = 0
        · omega
        · rw [if_pos (.inr ⟨h3, h0⟩)] at hv; cases hv
    · cases hv
theorem putZ_vz {typ : Int} {nu : Bool} {l : List Vl} (hT : okT typ = true) (hl : l.length ≤ 1024) (hv : ∀ x ∈ l, chkV typ nu x = 0) (h : ∀ x ∈ l, Vok x) : (putZ (zof typ l)).length ≤ 4 + 2 * vz typ := by
  have hm : ∀ m sg, isM typ sg l m → (putV m.nu m.n m.s).length ≤ vz typ := fun m sg hm => by
    rcases hm with ⟨_, rfl⟩ | ⟨h1, _, _⟩
    · exact putV_vz hT (nu := true) (.inr rfl) ⟨by decide, by decide⟩
    · exact putV_vz hT (.inl (hv m h1)) (h m h1)
  obtain ⟨i1, i2⟩ := isM_zof typ l
  have l1 : (putV (zof typ l).mn.nu (zof typ l).mn.n (zof typ l).mn.s).length ≤ vz typ := hm _ _ i1
  have l2 : (putV (zof typ l).mx.nu (zof typ l).mx.n (zof typ l).mx.s).length ≤ vz typ := hm _ _ i2
  have hn := stz_le typ l
  have p1 := putL_len (n := (zof typ l).rows.toNat) 2 (by show ((l.length : Int)).toNat < _; omega) (by decide)
  have p2 := putL_len (n := (zof typ l).nulls.toNat) 2 (by show (((stz typ l).1 : Int)).toNat < _; omega) (by decide)
  unfold putZ
  simp only [List.length_append]
  omega
theorem vz_le (ty : Int) : vz ty ≤ 67 := by unfold vz; split <;> omega
section
variable {cs : List Col} {key : Int} {l : List Rc}
theorem putK_vz {r : Rc} (S : Srt cs key l) (hb : InR l) (hr : r ∈ l) : (putK (keyV key.toNat r) r.seq.toNat).length ≤ 73 := by
  obtain ⟨x, _, h2, h3⟩ := key_ok S.sch (S.ok r hr)
  obtain ⟨_, _, _, h4, h5⟩ := chkS_ok S.sch
  have hT := okT_of S.sch key.toNat
  rw [colT_lt (by omega)] at hT
  have hv := key_vok S.sch S.ok hb hr
  rw [h2] at hv ⊢
  have h6 := putV_vz hT (.inl h3) hv
  have h7 := vz_le (cs.getD key.toNat col0).ty
  have hq := okRec_all (S.ok r hr)
  have h8 := putL_len (n := r.seq.toNat) 6 (by omega) (by decide)
  unfold putK
  rw [List.length_append]
  omega
/-- The chunks, their lengths and the zones of the first n columns. -/
theorem cols_le (S : Srt cs key l) (hl : l.length ≤ 1024) (hb : InR l) : ∀ n, n ≤ cs.length → (chs cs l n).flatten.length + (lensB (chs cs l n)).length + (znsB (zns cs l n)).length ≤ ((cs.take n).map (bndC l.length)).sum
  | 0, _ => by simp [chs, lensB, zns, znsB]
  | n + 1, hn => by
    have ih := cols_le S hl hb n (by omega)
    have hT := okT_of S.sch n
    have hv := col_ok S.ok n
    have hk := col_vok S.sch S.ok hb n
    have h1 := best_mz (typ := (colT cs n).ty) (by rw [colV_len]; exact hl) hk
    have h2 := putL_len (n := (chB cs l n).length) 3 (by have := (chB_len S.sch hl S.ok hb n).2; omega) (by decide)
    have h3 := putZ_vz hT (by rw [colV_len]; exact hl) hv hk
    rw [colV_len] at h1
    rw [colV_lt (show n < cs.length by omega)] at h3
    rw [colT_lt (show n < cs.length by omega)] at h1 h3
    have hc : (chB cs l n).length = (bestB (cs.getD n col0).ty (colV cs l n)).length := by unfold chB; rw [colT_lt (show n < cs.length by omega)]
    rw [chs_snoc, lensB_snoc, zns_snoc, znsB_snoc, List.flatten_append, List.take_add_one, List.getElem?_eq_getElem (show n < cs.length by omega)]
    simp only [Option.toList_some, List.flatten_cons, List.flatten_nil, List.append_nil, List.length_append, List.map_append, List.sum_append, List.map_cons, List.map_nil, List.sum_cons, List.sum_nil]
    have hg : cs.getD n col0 = cs[n] := by rw [List.getD_eq_getElem?_getD, List.getElem?_eq_getElem (show n < cs.length by omega)]; rfl
    rw [hg] at h1 h3 hc
    have hbc : bndC l.length cs[n] = 16 + 2 * vz cs[n].ty + l.length * mz cs[n].ty + (l.length + 7) / 8 := rfl
    rw [hg, hbc]
    omega
theorem file_le (S : Srt cs key l) (hl : l.length ≤ 1024) (h0 : l.length ≠ 0) (hb : InR l) : (fileOf cs key l).length ≤ bndN cs l.length := by
  have h1 := cols_le S hl hb cs.length (Nat.le_refl _)
  rw [List.take_length] at h1
  have h2 := best_mz (typ := (colT cs cs.length).ty) (by rw [colV_len]; exact hl) (col_vok S.sch S.ok hb cs.length)
  have h3 := putL_len (n := (chB cs l cs.length).length) 3 (by have := (chB_len S.sch hl S.ok hb cs.length).2; omega) (by decide)
  rw [colV_len, colT_seq (Nat.lt_irrefl _)] at h2
  have hm : mz seqC.ty = 10 := rfl
  rw [hm] at h2
  have hc : (chB cs l cs.length).length = (bestB seqC.ty (colV cs l cs.length)).length := by unfold chB; rw [colT_seq (Nat.lt_irrefl _)]
  have h4 := putK_vz S hb (rc_first h0).1
  have h5 := putK_vz S hb (rc_last h0).1
  have h6 := putL_len (n := l.length) 2 (by omega) (by decide)
  unfold fileOf
  rw [file_around, ← str_size, around_size, foot_body, chs_snoc]
  unfold Go.MP.bodyB
  rw [lensB_snoc, List.flatten_append]
  simp only [List.flatten_cons, List.flatten_nil, List.append_nil, List.length_append, four_len]
  have e1 : (infOf cs key l).rows = l.length := rfl
  have e2 : (infOf cs key l).zs = zns cs l cs.length := rfl
  have e3 : putK (infOf cs key l).lo (infOf cs key l).lq = putK (keyV key.toNat (l.getD 0 rc0)) (l.getD 0 rc0).seq.toNat := rfl
  have e4 : putK (infOf cs key l).hi (infOf cs key l).hq = putK (keyV key.toNat (l.getD (l.length - 1) rc0)) (l.getD (l.length - 1) rc0).seq.toNat := rfl
  rw [e1, e2, e3, e4]
  unfold bndN
  omega
/-! ### one byte changed -/
end
end Go.MP
