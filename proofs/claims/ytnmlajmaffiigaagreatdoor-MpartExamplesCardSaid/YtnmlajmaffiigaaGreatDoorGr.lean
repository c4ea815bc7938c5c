/- Runs: lists of whole numbers, the runs of a list, its encoding, and what Decode finds in a text. -/
import Derived.Test.YtnmlajmaffiigaaGreatDoorGv
import Derived.Test.YtnmlajmaffiigaaGreatDoorGm
import Derived.Lib.AppendStr
import Derived.StillTailTactics
import Derived.Deep.RegionWith
namespace Go.RL
open Go.RowKit Go.VB Go.VarM Go.Proofs.YtnmlajmaffiigaaGreatDoor

/-- The number of elements at the beginning that equal v. -/
def fr (v : Int) : List Int → Nat
  | [] => 0
  | x :: r => if x = v then fr v r + 1 else 0
theorem fr_le (v : Int) : ∀ l, fr v l ≤ l.length
  | [] => Nat.le_refl _
  | x :: r => by
    have := fr_le v r
    unfold fr; split <;> simp <;> omega
/-- One more equal element, one less that is left. -/
theorem fr_step {v : Int} {l : List Int} {j : Nat} (h : l[j]? = some v) : fr v (l.drop j) = fr v (l.drop (j + 1)) + 1 := by
  obtain ⟨hj, he⟩ := List.getElem?_eq_some_iff.1 h
  rw [List.drop_eq_getElem_cons hj, fr, if_pos he]
theorem fr_stop {v x : Int} {l : List Int} {j : Nat} (h : l[j]? = some x) (hx : x ≠ v) : fr v (l.drop j) = 0 := by
  obtain ⟨hj, he⟩ := List.getElem?_eq_some_iff.1 h
  rw [List.drop_eq_getElem_cons hj, fr, if_neg (by rw [he]; exact hx)]
theorem fr_end {v : Int} {l : List Int} {j : Nat} (h : l.length ≤ j) : fr v (l.drop j) = 0 := by
  rw [List.drop_eq_nil_of_le h]; rfl

/-- The bytes of one run. -/
def run1 (k : Nat) (v : Int) : List UInt8 := putL k ++ putL (zigN v).toNat
/-- The encoding of a list. -/
def encR : List Int → List UInt8
  | [] => []
  | x :: r => run1 (fr x r + 1) x ++ encR (r.drop (fr x r))
termination_by l => l.length
decreasing_by simp; omega
/-- The number of runs. -/
def nR : List Int → Nat
  | [] => 0
  | x :: r => nR (r.drop (fr x r)) + 1
termination_by l => l.length
decreasing_by simp; omega
theorem encR_nil : encR [] = [] := by rw [encR]
theorem encR_cons (x : Int) (r : List Int) : encR (x :: r) = run1 (fr x r + 1) x ++ encR (r.drop (fr x r)) := by rw [encR]
theorem nR_nil : nR [] = 0 := by rw [nR]
theorem nR_cons (x : Int) (r : List Int) : nR (x :: r) = nR (r.drop (fr x r)) + 1 := by rw [nR]
/-- At a place of a list. -/
theorem drop_run {l : List Int} {i : Nat} {x : Int} (h : l[i]? = some x) : fr x (l.drop i) = fr x (l.drop (i + 1)) + 1 ∧ l.drop (i + fr x (l.drop i)) = (l.drop (i + 1)).drop (fr x (l.drop (i + 1))) := by
  have e := fr_step h
  refine ⟨e, ?_⟩
  rw [e, List.drop_drop]; congr 1; omega
theorem encR_at {l : List Int} {i : Nat} {x : Int} (h : l[i]? = some x) : encR (l.drop i) = run1 (fr x (l.drop i)) x ++ encR (l.drop (i + fr x (l.drop i))) := by
  obtain ⟨e1, e2⟩ := drop_run h
  obtain ⟨hj, he⟩ := List.getElem?_eq_some_iff.1 h
  rw [e2, e1, List.drop_eq_getElem_cons hj, encR_cons, he]
theorem fr_at {l : List Int} {i : Nat} {x : Int} (h : l[i]? = some x) : 1 ≤ fr x (l.drop i) ∧ i + fr x (l.drop i) ≤ l.length := by
  obtain ⟨hj, _⟩ := List.getElem?_eq_some_iff.1 h
  have h1 := fr_step h
  have h2 := fr_le x (l.drop i)
  rw [List.length_drop] at h2
  omega

/-! sizes -/
def I64 (l : List Int) : Prop := ∀ z ∈ l, -9223372036854775808 ≤ z ∧ z ≤ 9223372036854775807
theorem I64.of {l : List Int} (h : ∀ z ∈ l, (Lit.int .i64 z).wf = true) : I64 l := fun z hz => bounds_i64 (h z hz)
theorem I64.drop {l : List Int} (h : I64 l) (n : Nat) : I64 (l.drop n) := fun z hz => h z (List.mem_of_mem_drop hz)
theorem I64.at {l : List Int} (h : I64 l) {i : Nat} {x : Int} (hx : l[i]? = some x) : -9223372036854775808 ≤ x ∧ x ≤ 9223372036854775807 := h x (List.mem_of_getElem? hx)
theorem I64.tail {x : Int} {l : List Int} (h : I64 (x :: l)) : I64 l := fun z hz => h z (List.mem_cons_of_mem _ hz)
theorem I64.head {x : Int} {l : List Int} (h : I64 (x :: l)) : -9223372036854775808 ≤ x ∧ x ≤ 9223372036854775807 := h x (List.mem_cons_self ..)
theorem zig_lt {v : Int} (h : -9223372036854775808 ≤ v ∧ v ≤ 9223372036854775807) : (zigN v).toNat < 18446744073709551616 := by
  have := zig_bd h.1 h.2; omega
theorem putL_self : ∀ k, 1 ≤ k → (putL k).length ≤ k := by
  intro k
  induction k using Nat.strongRecOn with
  | _ k ih =>
    intro hk
    by_cases h : k < 128
    · rw [putL_lt h]; simpa using hk
    · rw [putL_ge h, List.length_cons]
      have := ih (k / 128) (by omega) (by omega)
      omega
theorem run1_le {k : Nat} {v : Int} (hk : 1 ≤ k) (h : -9223372036854775808 ≤ v ∧ v ≤ 9223372036854775807) : (run1 k v).length ≤ k + 10 := by
  have h1 := putL_self k hk
  have h2 := putL_len10 (zig_lt h)
  unfold run1; rw [List.length_append]; omega
theorem run1_ge (k : Nat) (v : Int) : 2 ≤ (run1 k v).length := by
  have h1 := putL_pos k
  have h2 := putL_pos (zigN v).toNat
  unfold run1; rw [List.length_append]; omega
theorem run1_le12 {k : Nat} {v : Int} (hk : k < 16384) (h : -9223372036854775808 ≤ v ∧ v ≤ 9223372036854775807) : (run1 k v).length ≤ 12 := by
  have h1 := putL_len (n := k) 2 (by omega) (by decide)
  have h2 := putL_len10 (zig_lt h)
  unfold run1; rw [List.length_append]; omega
theorem enc_sizes : ∀ (n : Nat) (l : List Int), l.length ≤ n → I64 l → (encR l).length ≤ 11 * l.length ∧ 2 * nR l ≤ (encR l).length ∧ nR l ≤ l.length ∧ (l.length < 16384 → (encR l).length ≤ 12 * nR l) := by
  intro n
  induction n with
  | zero =>
    intro l hl _
    have : l = [] := List.eq_nil_of_length_eq_zero (by omega)
    subst this
    rw [encR_nil, nR_nil]; simp
  | succ n ih =>
    intro l hl hi
    cases l with
    | nil => rw [encR_nil, nR_nil]; simp
    | cons x r =>
      have hf := fr_le x r
      have hd : (r.drop (fr x r)).length = r.length - fr x r := List.length_drop
      simp only [List.length_cons] at hl
      obtain ⟨h1, h2, h3, h4⟩ := ih (r.drop (fr x r)) (by omega) (hi.tail.drop _)
      have r1 := run1_le (k := fr x r + 1) (by omega) hi.head
      have r2 := run1_ge (fr x r + 1) x
      rw [encR_cons, nR_cons, List.length_append, List.length_cons]
      refine ⟨by omega, by omega, by omega, fun hs => ?_⟩
      have r3 := run1_le12 (k := fr x r + 1) (by omega) hi.head
      have := h4 (by omega)
      omega
theorem encR_len {l : List Int} (h : I64 l) : (encR l).length ≤ 11 * l.length := (enc_sizes _ l (Nat.le_refl _) h).1

/-! the number of runs, counted at their beginnings -/
/-! a run more at the end -/
/-! reading -/
section
variable {s : ByteArray} {n : Nat} {p : Int} {l : List Int}
end
end Go.RL

namespace Go.VB
open Go.RowKit
theorem addr_add_add (a : Addr) (i j : Nat) : (a.add i).add j = a.add (i + j) := by
  unfold Addr.add
  by_cases hi : i = 0
  · subst hi; simp
  · by_cases hj : j = 0
    · subst hj; simp [hi]
    · simp [hi, hj, Nat.add_assoc]
theorem addr_zero (a : Addr) : a.add 0 = a := by unfold Addr.add; simp
/-- l[i:]. -/
theorem RdV.tail {α : Type} {f : α → Value} {w : World} {B c : Nat} {ad : Addr} {l : List α} (h : RdV f w B (.slice (some ad) l.length c) l) (i : Nat) (hi : i ≤ l.length) :
    RdV f w B (.slice (some (ad.add i)) (l.length - i) (c - i)) (l.drop i) := by
  obtain ⟨A', c', hv, hc, hm, hr⟩ := h
  cases hv
  refine ⟨_, c - i, by rw [List.length_drop], by rw [List.length_drop]; omega, by omega, fun j x hx => ⟨_, rfl, ?_⟩⟩
  rw [List.getElem?_drop] at hx
  obtain ⟨ad', h1, h2, h3⟩ := hr (i + j) x hx
  cases h1
  exact ⟨by rw [block_add]; exact h2, by rw [addr_add_add]; exact h3⟩
/-- make([]T, 0, n). -/
theorem OwnV.made0 {α : Type} (f : α → Value) (z : Value) (e : TypeId) (w : World) (base n : Nat) (hb : base ≤ w.heap.size) (hm : n ≤ maxLen) :
    OwnV f e (w.alloc (.cells (madeCells #[z] n) e)) base (.slice (some ⟨w.heap.size, 0, none⟩) 0 n) [] :=
  World.ownsRow_made w _ n hb hm (by rw [size_madeCells, Nat.mul_one])
/-- []byte{}. -/
theorem OwnB.empty (e : TypeId) (w : World) (base c : Nat) (hb : base ≤ w.heap.size) (cur : Array Value) (hc : cur.size = c) (hm : c ≤ maxLen) : OwnB e (w.alloc (.cells cur e)) base (.slice (some ⟨w.heap.size, 0, none⟩) 0 c) [] :=
  World.ownsRow_made w cur c hb hm (by rw [hc, Nat.mul_one])
theorem OwnB.below {e : TypeId} {w w' : World} {base : Nat} {v : Value} {bs : List UInt8} (h : OwnB e w base v bs) (hb : Below w.heap.size w w') : OwnB e w' base v bs := by
  refine World.ownsRow.kept (row := none) h ⟨hb.os, hb.tape, hb.output, hb.size, fun b hlt _ => hb.block b hlt⟩ ?_
  rcases hv : v.ownBlock with _ | b
  · exact .inl rfl
  · exact .inr (by simp)
/-- A row's next room, asked by a length below four fifths of the greatest. -/
theorem grow_le (need : Nat) : ∀ (r c : Nat), c < need → Builtin.growBy need r c ≤ need + need / 4 + 192
  | 0, c, h => by unfold Builtin.growBy; omega
  | r + 1, c, h => by
    unfold Builtin.growBy
    rw [if_neg (by omega)]
    by_cases h2 : c + (c + 768) / 4 < need
    · exact grow_le need r _ h2
    · cases r with
      | zero => unfold Builtin.growBy; omega
      | succ r => unfold Builtin.growBy; rw [if_pos (by omega)]; omega
theorem next_le {need old : Nat} (h : old < need) : Builtin.nextslicecap need old ≤ need + need / 4 + 512 := by
  unfold Builtin.nextslicecap
  split
  · omega
  · split
    · omega
    · have := grow_le need 4 old h; omega
theorem strCells_bv (s : ByteArray) : Lib.strCells s = s.data.toList.map bv := rfl
section
variable {P : Program}
theorem run_appS (w : World) (base : Nat) (t u ty e : TypeId) (ht : P.underlying t = some (.slice e)) (hu : P.underlying u = some .string) (hinfo : (P.info? e).map (fun i => (i.zero, i.size, i.bytes)) = some (some (.int .u8 0), 1, 1))
    (v : Value) (bs : List UInt8) (hown : OwnB e w base v bs) (s : ByteArray) (hlen : bs.length + s.size ≤ 225179981368000) (hbase : base ≤ w.heap.size) :
    ∃ v' w', (Builtin.append_ #[t, u] ty #[v, .string s]).run P w = .ok v' w' ∧ OwnB e w' base v' (bs ++ s.data.toList) ∧ w.grownBy w' v.ownBlock := by
  obtain ⟨i, hi, hz, hsz, hby⟩ := info_parts hinfo
  have fin : ∀ v' w', w'.ownsRow base e 1 v' (bs.length + s.size) (bs.map bv ++ Lib.strCells s) → OwnB e w' base v' (bs ++ s.data.toList) := fun v' w' h => by
    unfold OwnB
    rw [List.map_append, List.length_append, size_list]
    exact h
  by_cases hsmall : bs.length + s.size ≤ 140737488355328
  · obtain ⟨v', w', h1, h2, h3, _⟩ := Lib.run_append_own_string (P := P) w base t u ty e i ht hu hi hz hsz hby v bs.length (bs.map bv) hown s (by unfold maxLen; omega) hsmall hbase
    exact ⟨v', w', h1, fin v' w' h2, h3⟩
  · have hxl : (bs.map bv).length = bs.length := List.length_map _
    have hsl := Lib.strCells_length s
    have hown' : w.ownsRow base e 1 v bs.length (bs.map bv) := hown
    rcases hown'.2 with ⟨rfl, h0⟩ | ⟨g, cap, cur, rfl, hbg, hg, hnc, hcm, hcs, htake⟩
    · have h0' : bs = [] := List.eq_nil_of_length_eq_zero h0
      subst h0'
      simp only [List.length_nil, Nat.zero_add] at hsmall hlen
      have hr := run_append_nil_string (P := P) w t u ty e i (.int .u8 0) ht hu hi hz s (by omega) (by omega) (by rw [hby]; omega)
      have hge := grownCap_ge w s.size 0 e
      have hcm := grownCap_le_maxLen w s.size 0 e (by unfold maxLen; omega)
      have e1 : (s.data.map fun b => Value.int .u8 b.toNat) = (Lib.strCells s).toArray := by
        apply Array.ext'
        simp [Lib.strCells]
      rw [e1] at hr
      refine ⟨_, _, hr, fin _ _ ⟨by simp [hsl], .inr ⟨w.heap.size, _, _, by simp, hbase, heap_alloc_new w.drew _, by simpa using hge, hcm, ?_, ?_⟩⟩, rfl, rfl, rfl, by simp, fun k hk _ => heap_alloc_old w.drew _ hk⟩
      · have hz1 : (Value.int IntKind.u8 0).cells.size = 1 := rfl
        simp only [Array.size_append, List.size_toArray, size_zeroCells, hz1, hsl]
        omega
      · rw [Array.toList_append, List.map_nil, List.nil_append, List.length_nil, Nat.zero_add, Nat.mul_one, ← hsl]
        exact List.take_left
    · have hcs' : cur.size = cap := by simpa using hcs
      have htk : cur.toList.take bs.length = bs.map bv := by simpa using htake
      by_cases hroom : bs.length + s.size ≤ cap
      · have hr := Lib.run_append_room_string (P := P) w t u ty e i ht hu hi hsz g bs.length cap cur hg s hroom (by omega)
        refine ⟨_, _, hr, fin _ _ ⟨by rw [List.length_append, hxl, hsl, Nat.mul_one], .inr ⟨g, cap, _, rfl, hbg, setRow_heap w g cur _ e _ hg, hroom, hcm, ?_, ?_⟩⟩, rfl, rfl, rfl, by simp, fun k _ hk => setRow_other w g k _ (fun e => hk (by simp [Value.ownBlock, e]))⟩
        · simp only [List.size_toArray, List.length_append, List.length_take, List.length_drop, Array.length_toList, hsl]
          omega
        · rw [htk, Nat.mul_one]
          have : bs.length + s.size = (bs.map bv ++ Lib.strCells s).length := by rw [List.length_append, hxl, hsl]
          rw [this]
          exact List.take_left
      · have holds : ∀ j u, (bs.map bv)[j]? = some u → w.cell? ((⟨g, 0, none⟩ : Addr).add j) = some u := hown'.cells (g := g) rfl
        have hnx := next_le (need := bs.length + s.size) (old := cap) (by omega)
        have hr := Lib.run_append_grow_string (P := P) w t u ty e i (.int .u8 0) ht hu hi hz ⟨g, 0, none⟩ bs.length cap (bs.map bv) (by rw [hsz, hxl, Nat.mul_one]) holds s (by omega) (by omega) (by rw [hby]; omega)
        have hge := grownCap_ge w (bs.length + s.size) cap e
        have hcm2 := grownCap_le_maxLen w (bs.length + s.size) cap e (by unfold maxLen; omega)
        refine ⟨_, _, hr, fin _ _ ⟨by rw [List.length_append, hxl, hsl, Nat.mul_one], .inr ⟨w.heap.size, _, _, rfl, hbase, heap_alloc_new w.drew _, hge, hcm2, ?_, ?_⟩⟩, rfl, rfl, rfl, by simp, fun k hk _ => heap_alloc_old w.drew _ hk⟩
        · have hz1 : (Value.int IntKind.u8 0).cells.size = 1 := rfl
          simp only [Array.size_append, List.size_toArray, size_zeroCells, hz1, hxl, hsl]
          omega
        · have : (bs.length + s.size) * 1 = (bs.map bv ++ Lib.strCells s).length := by rw [List.length_append, hxl, hsl, Nat.mul_one]
          rw [this, Array.toList_append, Array.toList_append]
          exact List.take_left
/-- append(b, s...), s a text. -/
theorem wpl_appS {w : World} {ops : Array Oper} {rest : List Oper} {o : Oper} {a : Act} {Q : Exit → Act → World → Prop} (hgd : o.guard = none) (sl x : Operand) (t u : TypeId)
    (ho : o.op = .call { callee := .builtin .append, args := #[sl, x], argTypes := #[t, u] })
    (base : Nat) (e : TypeId) (ht : P.underlying t = some (.slice e)) (hu : P.underlying u = some .string) (hinfo : (P.info? e).map (fun i => (i.zero, i.size, i.bytes)) = some (some (.int .u8 0), 1, 1))
    (v : Value) (bs : List UInt8) (hs : a.eval sl = v) (hown : OwnB e w base v bs) (s : ByteArray) (hx : a.eval x = .string s) (hlen : bs.length + s.size ≤ 225179981368000) (hbase : base ≤ w.heap.size)
    (h : ∀ v' w', OwnB e w' base v' (bs ++ s.data.toList) → Below base w w' → w.grownBy w' v.ownBlock → wpList P ops Q rest (a.put o.dst v') w') : wpList P ops Q (o :: rest) a w := by
  refine wpList_plain hgd fun K hK => ?_
  obtain ⟨v', w', hr, h2, h3⟩ := run_appS (P := P) w base t u o.type e ht hu hinfo v bs hown s hlen hbase
  have hbel : Below base w w' := (Below.refl _ _).grown h3 hbase (fun b hb => (World.ownsRow.lt hown b hb).1)
  unfold Oper.wp execOp
  simp only [ho, resolve, invoke, builtin, Sem.run_bind, Sem.run_pure, Result.andThen_ok, List.map_toArray, List.map_cons, List.map_nil, hs, hx, hr]
  exact hK _ _ (h v' w' h2 hbel h3)
end
end Go.VB

namespace Go.Proofs.YtnmlajmaffiigaaGreatDoor
open Go.RowKit Go.VB Go.VarM Go.RL
set_option maxRecDepth 100000 in
set_option maxHeartbeats 1000000 in
theorem first_any (v : Value) (l : List Int) (x : Int) (B : Nat) (w : World) (hr : RdV (Value.int .i64) w B v l) (hB : B ≤ w.heap.size) (hx : l[0]? = some x) :
    Calls Tryz.prog 227 #[v] w (RetB (.int .i64 (fr x l : Nat)) w) := by
  obtain ⟨A, c, rfl, hc1, hc2, hr'⟩ := hr
  have hr : RdV (Value.int .i64) w B (.slice A l.length c) l := ⟨A, c, rfl, hc1, hc2, hr'⟩
  clear hr'
  unfold maxLen at hc2
  have h0 := fr_step hx
  rw [List.drop_zero] at h0
  have hl0 : 0 < l.length := (List.getElem?_eq_some_iff.1 hx).1
  have hfl := fr_le x l
  generalize hT : fr x l = T at h0 hfl ⊢
  have HT := Lib.hid hT; have H0 := Lib.hid h0; have HR := Lib.hid hr; have HX := Lib.hid hx
  clear hT h0 hr hx
  go_enter Tryz.func227, Tryz.ntmps227
  go_wp2
  go_loopw [3] (fun i wr => ∃ j : Nat, i = .int .i64 j ∧ j ≤ l.length ∧ 1 ≤ j ∧ T = fr x (l.drop j) + j ∧ Below w.heap.size w wr) (fun i _ => l.length - (intOf i).toNat)
  case atStart => exact ⟨1, rfl, hl0, Nat.le_refl _, H0.out, Below.refl _ _⟩
  case round =>
    obtain ⟨j, rfl, hj, hj1, hs, hbel⟩ := hrel
    have HS := Lib.hid hs; clear hs
    by_cases hlt : j < l.length
    · have hlj : l[j]? = some l[j] := List.getElem?_eq_getElem hlt
      obtain ⟨_, _, hv1, _, _, hcx⟩ := HR.out.below (hbel.mono hB)
      cases hv1
      obtain ⟨ad, rfl, _, hgx⟩ := hcx j _ hlj
      obtain ⟨_, e1, _, hg0⟩ := hcx 0 _ HX.out
      cases e1
      rw [addr_zero] at hg0
      have hst : l[j] = x → fr x (l.drop j) = fr x (l.drop (j + 1)) + 1 := fun e => fr_step (by rw [hlj, e])
      have hsp : l[j] ≠ x → fr x (l.drop j) = 0 := fun e => fr_stop hlj e
      have HST := Lib.hid hst; have HSP := Lib.hid hsp
      clear hcx hlj hst hsp
      generalize l[j] = y at hgx HST HSP
      by_cases hy : y = x
      · subst hy
        have hd : (y == y) = true := beq_self_eq_true _
        go_wp2_with fail
        go_region
        go_wp2_with fail
        go_roundw
        case rel => exact ⟨j + 1, by go_num, hlt, by omega, by rw [HS.out, HST.out (by simp)]; omega, hbel.drew⟩
        case measure => simp [intOf] <;> omega
      · have hd : (y == x) = false := beq_eq_false_iff_ne.2 hy
        have HY := Lib.hid hy; clear hy
        go_wp2_with fail
        go_region
        go_wp2
        go_ret
        exact RetB.mk (vint (by rw [HS.out, HSP.out HY.out]; simp)) hbel.drew
    · have he := fr_end (v := x) (l := l) (j := j) (by omega)
      have HE := Lib.hid he; clear he
      go_wp2_with fail
      go_region
      go_wp2
      go_ret
      exact RetB.mk (vint (by rw [HS.out, HE.out]; simp)) hbel.drew
end Go.Proofs.YtnmlajmaffiigaaGreatDoor

namespace Go.Proofs.YtnmlajmaffiigaaGreatDoor
open Go.RowKit Go.VB Go.VarM Go.RL
theorem zig_nat {x : Int} (h : -9223372036854775808 ≤ x ∧ x ≤ 9223372036854775807) : ∃ z : Nat, zigN x = z ∧ (zigN x).toNat = z ∧ z < 18446744073709551616 :=
  ⟨(zigN x).toNat, by rw [Int.toNat_of_nonneg (zig_bd h.1 h.2).1], rfl, zig_lt h⟩
theorem drop0 {l : List Int} {i : Nat} (h : i < l.length) : (l.drop i)[0]? = some l[i] := by
  rw [List.getElem?_drop, Nat.add_zero, List.getElem?_eq_getElem h]
set_option maxRecDepth 100000 in
set_option maxHeartbeats 2000000 in
theorem encode_any (v : Value) (l : List Int) (B : Nat) (w : World) (hr : RdV (Value.int .i64) w B v l) (hB : B ≤ w.heap.size) (hi : I64 l) (hl : l.length ≤ 17592186043904) :
    Calls Tryz.prog 196 #[v] w (RetB (.string (str (encR l))) w) := by
  obtain ⟨A, c, rfl, hc1, hc2, hr'⟩ := hr
  have hr : RdV (Value.int .i64) w B (.slice A l.length c) l := ⟨A, c, rfl, hc1, hc2, hr'⟩
  clear hr'
  unfold maxLen at hc2
  have HR := Lib.hid hr; clear hr
  have hlen := encR_len hi
  have HI := Lib.hid hi; clear hi
  generalize hT : encR l = T at hlen
  have HT := Lib.hid hT; clear hT
  go_enter Tryz.func196, Tryz.ntmps196
  go_wp2
  go_loopw [3, 4] (fun v i wr => ∃ (bs : List UInt8) (j : Nat), i = .int .i64 j ∧ j ≤ l.length ∧ OwnB 5 wr w.heap.size v bs ∧ bs ++ encR (l.drop j) = T ∧ Below w.heap.size w wr) (fun _ i _ => l.length - (intOf i).toNat)
  case atStart => exact ⟨[], 0, rfl, Nat.zero_le _, OwnB.empty _ _ _ _ (Nat.le_refl _) _ rfl (by decide), by rw [List.drop_zero, List.nil_append]; exact HT.out, (Below.refl _ _).alloc (Nat.le_refl _) _⟩
  case round =>
    obtain ⟨bs, j, rfl, hj, hown, hs, hbel⟩ := hrel
    by_cases hlt : j < l.length
    · have hlj : l[j]? = some l[j] := List.getElem?_eq_getElem hlt
      obtain ⟨h2, h3⟩ := fr_at hlj
      rw [encR_at hlj, run1] at hs
      have hx := HI.out.at hlj
      obtain ⟨z, hz1, hz2, hz3⟩ := zig_nat hx
      have HZ := fun w => vzig_any l[j] w hx.1 hx.2
      rw [hz1] at HZ
      rw [hz2] at hs
      obtain ⟨_, _, hv1, _, _, hcx⟩ := HR.out.below (hbel.mono hB)
      cases hv1
      obtain ⟨ad, rfl, hab, hgx⟩ := hcx j _ hlj
      have HC := Lib.hid (first_any _ _ _ B wr ((HR.out.below (hbel.mono hB)).tail j (by omega)) (Nat.le_trans hB hbel.size) (drop0 hlt))
      clear hcx hlj hz1 hz2 hx
      generalize fr l[j] (l.drop j) = q at *
      generalize l[j] = x at *
      have hq : q < 18446744073709551616 := by omega
      have hsum := congrArg List.length hs
      simp only [List.length_append] at hsum
      have hP := fun w => vput_any q w hq
      have hZ := fun w => vput_any z w hz3
      have hsP := str_size (putL q)
      have hsZ := str_size (putL z)
      have HS := Lib.hid hs; have HZZ := fun w => Lib.hid (HZ w); have HP := fun w => Lib.hid (hP w); have HZ' := fun w => Lib.hid (hZ w)
      clear hs HZ hP hZ
      have H4 : bs.length + (putL q).length + (putL z).length ≤ 193514046482944 := by omega
      clear hsum
      have H5 : bs.length + (str (putL q)).size ≤ 225179981368000 := by omega
      have H6 : (bs ++ (str (putL q)).data.toList).length + (str (putL z)).size ≤ 225179981368000 := by rw [List.length_append, size_list]; omega
      have H5' := Lib.hid H5; have H6' := Lib.hid H6
      clear hsP hsZ H4 H5 H6 hz3 hq
      have hab' : ∀ (w' : World), Below w.heap.size w w' → (ad.add j).block < w'.heap.size := fun _ h => by rw [block_add]; have := h.size; omega
      have HAB := Lib.hid hab'; clear hab'
      have hab2 : (ad.add j).block < w.heap.size := by rw [block_add]; omega
      go_wp2_with (first
        | (go_at_call 227; (with_reducible refine HC.out.mono ?_); rintro e w2 ⟨rfl, hb⟩; replace hgx := (hb.cell (HAB.out _ hbel)).trans hgx; replace hown := hown.below hb; replace hbel := bel_trans hbel hb; clear hb)
        | (go_at_call 83; (with_reducible refine (HP _).out.mono ?_); rintro e w3 ⟨rfl, hb⟩; replace hgx := (hb.cell (HAB.out _ hbel)).trans hgx; replace hown := hown.below hb; replace hbel := bel_trans hbel hb; clear hb)
        | (at_builtin; refine wpl_appS rfl _ _ 41 9 rfl w.heap.size 5 Tryz.underlying41 Tryz.underlying9 Tryz.infoU8 _ bs rfl hown _ rfl H5'.out hbel.size ?_; intro v4 w4 hown4 hb hg; replace hgx := (hb.cell hab2).trans hgx; clear hown; have hown := hown4; clear hown4; replace hbel := hbel.trans hb; clear hb hg)
        | (go_at_call 159; (with_reducible refine (HZZ _).out.mono ?_); rintro e w' ⟨rfl, rfl⟩)
        | (go_at_call 83; (with_reducible refine (HZ' _).out.mono ?_); rintro e w5 ⟨rfl, hb⟩; replace hgx := (hb.cell (HAB.out _ hbel)).trans hgx; replace hown := hown.below hb; replace hbel := bel_trans hbel hb; clear hb)
        | (at_builtin; refine wpl_appS rfl _ _ 41 9 rfl w.heap.size 5 Tryz.underlying41 Tryz.underlying9 Tryz.infoU8 _ (bs ++ (str (putL q)).data.toList) rfl hown _ rfl H6'.out hbel.size ?_; intro v6 w6 hown6 hb hg; clear hown; have hown := hown6; clear hown6; replace hbel := hbel.trans hb; clear hb hg))
      go_roundw
      case rel => exact ⟨_, j + q, by go_num, h3, hown, by rw [← HS.out, str_toList, str_toList]; simp only [List.append_assoc], hbel⟩
      case measure => simp [intOf] <;> omega
    · have hcv := run_string_of_own (P := Tryz.prog) 41 9 5 Tryz.underlying41 Tryz.underlying5 Tryz.underlying9 hown
      have HS := Lib.hid hs; clear hs
      go_wp2
      go_ret
      have he : l.drop j = [] := List.drop_eq_nil_of_le (by omega)
      exact RetB.mk (by have h := HS.out; rw [he, encR_nil, List.append_nil] at h; rw [h]; rfl) hbel
end Go.Proofs.YtnmlajmaffiigaaGreatDoor

namespace Go.Proofs.YtnmlajmaffiigaaGreatDoor
open Go.RowKit Go.VB Go.VarM Go.RL
end Go.Proofs.YtnmlajmaffiigaaGreatDoor

namespace Go.Proofs.YtnmlajmaffiigaaGreatDoor
open Go.RowKit Go.VB Go.VarM Go.RL
end Go.Proofs.YtnmlajmaffiigaaGreatDoor
