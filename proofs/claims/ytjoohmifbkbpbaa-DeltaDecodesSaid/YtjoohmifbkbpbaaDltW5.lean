/- The walk over Decode of package delta. -/
import Derived.Test.YtjoohmifbkbpbaaDltW4
namespace Go.VB
open Go.RowKit
/-- append(s, x) of one element onto a row at a known block that has room for it. -/
theorem wpl_appR {α : Type} {f : α → Value} {P : Program} {w : World} {ops : Array Oper} {rest : List Oper} {o : Oper} {a : Act} {Q : Exit → Act → World → Prop} (hone : ∀ x : α, (f x).oneCell' = true) (z : Value) (hgd : o.guard = none) (s x : Operand) (t : TypeId)
    (ho : o.op = .call { callee := .builtin .append, args := #[s, x], argTypes := #[t, t] })
    (base : Nat) (e : TypeId) (bytes : Nat) (ht : P.underlying t = some (.slice e)) (hinfo : (P.info? e).map (fun i => (i.zero, i.size, i.bytes)) = some (some z, 1, bytes))
    (g c : Nat) (l : List α) (hs : a.eval s = .slice (some ⟨g, 0, none⟩) l.length c) (hrow : RowV f e w base g c l) (B : Nat) (vx : Value) (y : α) (hx : a.eval x = vx) (hr : RdV f w B vx [y])
    (hroom : l.length + 1 ≤ c)
    (h : ∀ w', RowV f e w' base g c (l ++ [y]) → Below base w w' → w.grownBy w' (some g) → wpList P ops Q rest (a.put o.dst (.slice (some ⟨g, 0, none⟩) (l.length + 1) c)) w') : wpList P ops Q (o :: rest) a w := by
  obtain ⟨i, hi, hz, hsz, hby⟩ := info_parts hinfo
  obtain ⟨A, cx, rfl, hc, hm, hcell⟩ := hr
  obtain ⟨ad, rfl, _, hy0⟩ := hcell 0 y rfl
  have hrow' : w.ownsRow base e 1 (.slice (some ⟨g, 0, none⟩) l.length c) l.length (l.map f) := hrow
  rcases hrow'.2 with ⟨h1, _⟩ | ⟨g', c', cur, h1, hbg, hg, hnc, hcm, hcs, htake⟩
  · cases h1
  cases h1
  have hcs' : cur.size = c := by simpa using hcs
  have htk : cur.toList.take l.length = l.map f := by simpa using htake
  have hfl : (l.map f).length = l.length := List.length_map _
  have hrun := run_append_room (P := P) w t o.type e i ht hi g l.length c cur hg ad 1 cx [f y] (by rw [hsz]; rfl)
    (fun j u hj => by
      obtain ⟨hj1, he⟩ := List.getElem?_eq_some_iff.1 hj
      have hj0 : j = 0 := by simp at hj1; exact hj1
      subst hj0
      rw [hy0]; simpa using he)
    (fun u hu => by rw [List.mem_singleton.1 hu]; exact hone y) hroom (by rw [hsz, hcs']; simp; omega)
  have hg2 : w.grownBy (w.setRow g (cur.toList.take (l.length * i.size) ++ [f y] ++ cur.toList.drop (l.length * i.size + [f y].length)).toArray) (some g) := ⟨rfl, rfl, rfl, by simp, fun k _ hk => setRow_other w g k _ (fun e => hk (by rw [e]))⟩
  have hgl := (Array.getElem?_eq_some_iff.1 hg).1
  refine wpList_plain hgd fun K hK => ?_
  unfold Oper.wp execOp
  simp only [ho, resolve, invoke, builtin, Sem.run_bind, Sem.run_pure, Result.andThen_ok, List.map_toArray, List.map_cons, List.map_nil, hs, hx]
  have hx1 : ([y].length : Nat) = 1 := rfl
  rw [hx1, hrun]
  refine hK _ _ (h _ ?_ ((Below.refl _ _).grown hg2 (by omega) (fun b hb => by rw [← Option.some.inj hb]; exact hbg)) hg2)
  refine ⟨by simp, .inr ⟨g, c, _, by rw [List.length_append], hbg, setRow_heap w g cur _ e _ hg, by rw [List.length_append]; exact hroom, hcm, ?_, ?_⟩⟩
  · simp only [List.size_toArray, List.length_append, List.length_take, List.length_drop, Array.length_toList, hsz, List.length_cons, List.length_nil]
    omega
  · rw [hsz, Nat.mul_one, Nat.mul_one, htk, List.map_append]
    have e1 : (l ++ [y]).length = (l.map f ++ [f y]).length := by simp
    rw [e1]
    exact List.take_left
end Go.VB
namespace Go.DL
open Go.RowKit Go.VB Go.VarM Go.BP Go.RL
/-- It returns a list of its own, an index and a code. -/
def RetGB (e : TypeId) (d : List Int) (q c : Nat) (w : World) : Ending → World → Prop := fun en w' =>
  ∃ v, en = .returned (.tuple #[v, .int .i64 (q : Int), .int .i64 (c : Int)]) ∧ OwnV (Value.int .i64) e w' w.heap.size v d ∧ Below w.heap.size w w'
theorem getB_zero {s : ByteArray} {p : Int} {c : Nat} {d : List Int} {q : Nat} (h : getB s p c = (d, q, 0)) : d.length = c := by
  unfold getB at h
  repeat' split at h
  all_goals first
    | (have h2 := congrArg (fun x => x.2.2) h; simp only at h2; omega)
    | (have h1 := congrArg (fun x => x.1) h; simp only at h1; rw [← h1, List.length_map, digs_len])
theorem last_of {L : List Int} {x : Int} (h : L[L.length - 1]? = some x) : L.getLastD 0 = x := by rw [List.getLastD_eq_getLast?, List.getLast?_eq_getElem?, h]; rfl
end Go.DL
namespace Go.Proofs.Ytjoohmifbkbpbaa
open Go.RowKit Go.VB Go.VarM Go.BP Go.RL Go.DL
theorem getblock_is (s : ByteArray) (p : Int) (c : Nat) (w : World) (hs : s.size ≤ 140737488351232) (h1 : 1 ≤ c) (h32 : c ≤ 32) {d : List Int} {q e : Nat} (hg : getB s p c = (d, q, e)) :
    Calls Try.prog 31 #[.string s, .int .i64 p, .int .i64 (c : Int)] w (RetGB 2 d q e w) := by
  have := getblock_any s p c w hs h1 h32
  rw [hg] at this
  exact this
set_option maxRecDepth 100000 in
set_option maxHeartbeats 4000000 in
theorem ddecode_any (s : ByteArray) (n : Int) (w : World) (hs : s.size ≤ 140737488351232) :
    Calls Try.prog 15 #[.string s, .int .i64 n] w (RetVE (Value.int .i64) 2 (decX s n).1 (decX s n).2 w) := by
  by_cases hn : n < 0 ∨ 4096 < n
  · rw [decX_out hn]
    rcases hn with hn | hn
    · go_enter Try.func15, Try.ntmps15
      go_wp2
      go_ret2
      exact RetVE.mk rfl (OwnV.nil _ _ _ _) (Below.refl _ _)
    · by_cases h0 : n < 0
      · omega
      · go_enter Try.func15, Try.ntmps15
        go_wp2
        go_ret2
        exact RetVE.mk rfl (OwnV.nil _ _ _ _) (Below.refl _ _)
  by_cases h0 : n = 0
  · subst h0
    have HD := Lib.hid (decnone_any s w)
    clear hn
    generalize decX s 0 = R at *
    go_enter Try.func15, Try.ntmps15
    go_wp2_with fail
    refine HD.out.mono ?_; rintro e w1 ⟨v, rfl, hown, hb⟩
    go_wp2
    go_ret2
    exact RetVE.mk rfl hown hb
  obtain ⟨n, rfl⟩ : ∃ k : Nat, n = k := ⟨n.toNat, by omega⟩
  have hn' : n ≤ 4096 := by omega
  have hn1 : 1 ≤ n := by omega
  have hmx : s.size ≤ maxLen := by unfold maxLen; omega
  have hd0 : decide ((4096 : Int) < (n : Int)) = false := decide_eq_false (by omega)
  have hd1 : ((n : Int) == 0) = false := beq_eq_false_iff_ne.2 (by omega)
  clear hn
  obtain ⟨a, b, e, hg⟩ : ∃ a b e, getR s 0 = (a, b, e) := ⟨_, _, _, rfl⟩
  by_cases he : e = 0
  · subst he
    obtain ⟨p, hp⟩ : ∃ p : Nat, b = p := by
      obtain ⟨k, m, _, h2, _, h3, _⟩ := getR_zero hg
      exact ⟨k + m, by omega⟩
    subst hp
    rw [decX_go hn' (by omega) hg]
    have HG := Lib.hid (getsig_ok s 0 w hmx hg)
    have hmk := run_make0 (P := Try.prog) (z := .int .i64 0) rfl Try.underlying23 Try.infI64 n (by omega) (by unfold maxLen; omega) w
    have hrow : RowV (Value.int .i64) 2 (w.alloc (.cells (madeCells #[.int .i64 0] n) 2)) w.heap.size w.heap.size n [] := OwnV.made0 (Value.int .i64) (.int .i64 0) 2 w w.heap.size n (Nat.le_refl _) (by unfold maxLen; omega)
    have hb0 : Below w.heap.size w (w.alloc (.cells (madeCells #[.int .i64 0] n) 2)) := (Below.refl _ _).alloc (Nat.le_refl _) _
    clear hg h0
    generalize hW : (w.alloc (.cells (madeCells #[.int .i64 0] n) 2)) = W1 at hrow hb0
    rw [hW] at hmk
    clear hW
    generalize zagN (a : Int) = z at *
    generalize hR : decB s (n - 1) p [z] = R
    have HR := Lib.hid hR; clear hR
    have hsz1 := hb0.size
    go_enter Try.func15, Try.ntmps15
    go_wp2_with (first
      | (go_at_call 30; (with_reducible refine HG.out.mono ?_); rintro e w' ⟨rfl, rfl⟩)
      | (at_builtin; refine wpl_appR (f := Value.int .i64) (fun _ => rfl) (.int .i64 0) rfl _ _ 23 rfl w.heap.size 2 8 Try.underlying23 Try.infI64 w.heap.size n [] rfl (hrow.alloc _) _ _ z rfl (RdV.one _ _ _ _ _ (by decide) (by decide)) hn1 ?_; intro w2 hrow2 hb2 _; have hb := (hb0.alloc hsz1 (.cells #[.int .i64 z] 2)).trans hb2; clear hrow hb2 hb0 hsz1 hmk))
    go_loopw [7, 9] (fun a v wr => ∃ (p : Nat) (ls : List Int), a = .int .i64 p ∧ v = .slice (some ⟨w.heap.size, 0, none⟩) ls.length n ∧ 1 ≤ ls.length ∧ ls.length ≤ n ∧ RowV (Value.int .i64) 2 wr w.heap.size w.heap.size n ls ∧ decB s (n - ls.length) p ls = R ∧ Below w.heap.size w wr) (fun _ v _ => n - lenS v)
    case atStart => exact ⟨p, [z], rfl, rfl, Nat.le_refl _, hn1, hrow2, HR.out, hb⟩
    case round =>
      clear hrow2 hb HR HG
      obtain ⟨p, ls, rfl, rfl, hl1, hln, hrow, hdec, hbel⟩ := hrel
      have HD := Lib.hid hdec; clear hdec
      by_cases hlt : ls.length < n
      · obtain ⟨m, hm⟩ : ∃ m, n = ls.length + m := ⟨n - ls.length, by omega⟩
        have hmi : (n : Int) - (ls.length : Int) = (m : Int) := by omega
        have hm0 : 1 ≤ m := by omega
        have hmm : n - ls.length = m := by omega
        rw [hmm] at HD
        have HM := Lib.hid hm
        clear hm hmm
        by_cases h32 : m ≤ 32
        · have hcm : min m 32 = m := by omega
          obtain ⟨d, q, e, hg⟩ : ∃ d q e, getB s p m = (d, q, e) := ⟨_, _, _, rfl⟩
          have HC : Hid (Calls Try.prog 31 #[.string s, .int .i64 p, .int .i64 (m:Int)] wr (RetGB 2 d q e wr)) := Lib.hid (getblock_is s p m wr hs (by omega) (by omega) hg)
          by_cases he : e = 0
          · subst he
            have hdl := getB_zero hg
            have hfin := (decB_go (l := ls) (by omega) hcm hg).symm.trans HD.out
            have HF := Lib.hid hfin
            clear hfin HD hcm hg
            go_wp2_with fail
            refine HC.out.mono ?_; rintro e w1 ⟨v1, rfl, hown1, hb1⟩
            rcases hown1.forms with ⟨_, hd0⟩ | ⟨gd, cd, rfl, hrow1⟩
            · exfalso
              have : d.length = 0 := by rw [hd0]; rfl
              omega
            have hgd := hrow1.lt
            have hgg := hrow.lt.2
            have hrow' := hrow.below hb1
            have hbel' := hbel.trans (hb1.mono hbel.size)
            have hcd := (hrow1.read)
            obtain ⟨_, _, hv1, hcd1, hcd2, _⟩ := hcd
            cases hv1
            unfold maxLen at hcd2
            have HDL := Lib.hid hdl
            have hd32 : d.length ≤ m ∧ m ≤ d.length := by omega
            clear HC hown1 hb1 hrow hbel hdl hmi
            go_wp2_with fail
            go_loopw [9, 62] (fun v i wk => ∃ (L : List Int) (j : Nat), v = .slice (some ⟨w.heap.size, 0, none⟩) L.length n ∧ i = .int .i64 j ∧ j ≤ d.length ∧ RowV (Value.int .i64) 2 wk w.heap.size w.heap.size n L ∧ L = acc ls (d.take j) ∧ RowV (Value.int .i64) 2 wk wr.heap.size gd cd d ∧ Below w.heap.size w wk) (fun _ i _ => d.length - (intOf i).toNat)
            case atStart => exact ⟨ls, 0, rfl, rfl, Nat.zero_le _, hrow', rfl, hrow1, hbel'⟩
            case round =>
              clear hrow' hrow1 hbel'
              obtain ⟨L, j, rfl, rfl, hj, hrowL, hL, hrowd, hbelk⟩ := hrel
              have hLl : L.length = ls.length + j := by
                rw [hL, acc_len, List.length_take]; omega
              have hLn : L.length ≤ ls.length + j ∧ ls.length + j ≤ L.length := by omega
              have HL := Lib.hid hL
              clear hL
              by_cases hjl : j < d.length
              · have hlj : d[j]? = some (d[j]'hjl) := List.getElem?_eq_getElem _
                have hgx := hrowd.cell j _ hlj
                have HSN := Lib.hid (acc_snoc ls hlj)
                clear hlj
                generalize d[j]'hjl = x at *
                have hla : L[L.length - 1]? = some (L[L.length - 1]'(by omega)) := List.getElem?_eq_getElem _
                have hgy := hrowL.cell (L.length - 1) _ hla
                have HLA := Lib.hid (last_of hla)
                clear hla
                generalize L[L.length - 1]'_ = y at *
                have hL1 : 1 ≤ L.length := by omega
                have hLr : L.length + 1 ≤ n := by have := HM.out; omega
                have hszk := hbelk.size
                clear hLl
                go_wp2_with (at_builtin; refine wpl_appR (f := Value.int .i64) (fun _ => rfl) (.int .i64 0) rfl _ _ 23 rfl w.heap.size 2 8 Try.underlying23 Try.infI64 w.heap.size n L rfl (hrowL.alloc _) _ _ (wrap64 (y + x)) rfl (RdV.one _ _ _ _ _ (by decide) (by decide)) hLr ?_; intro w3 hrow3 hb3 hg3; have hrowd3 := (hrowd.alloc (.cells #[.int .i64 (wrap64 (y + x))] 2)).keep hg3 (fun e => by have := Option.some.inj e; omega); have hbel3 := (hbelk.alloc hszk (.cells #[.int .i64 (wrap64 (y + x))] 2)).trans hb3; clear hrowL hrowd hb3 hg3)
                go_roundw
                case rel => exact ⟨L ++ [wrap64 (y + x)], j + 1, by rw [List.length_append]; rfl, by go_num, hjl, hrow3, by rw [HSN.out, ← HL.out, HLA.out], hrowd3, hbel3⟩
                case measure => simp [intOf] <;> omega
              · have hLf : L = acc ls d := by rw [HL.out, List.take_of_length_le (by omega)]
                have hmc : m - m = n - L.length := by have := HM.out; omega
                have HLF := Lib.hid hLf
                have hfin : decB s (n - L.length) q L = R := by rw [← hmc, hLf]; exact HF.out
                have HFI := Lib.hid hfin
                have hLn2 : 1 ≤ L.length ∧ L.length ≤ n := by have := HM.out; omega
                clear hLl hLf hmc hfin
                go_wp2_with fail
                go_roundw
                case rel => exact ⟨q, L, rfl, rfl, hLn2.1, hLn2.2, hrowL, HFI.out, hbelk⟩
                case measure => simp only [lenS]; have := HM.out; omega
          · have hR := HD.out
            rw [decB_e (by omega) hcm hg he] at hR
            have HRR := Lib.hid hR
            have hd : ((e : Int) != 0) = true := by simp; omega
            clear hR hg hcm he
            go_wp2_with fail
            refine HC.out.mono ?_; rintro e w1 ⟨v1, rfl, _, hb1⟩
            have hbel1 := hbel.trans (hb1.mono hbel.size)
            clear HC hb1
            go_wp2
            go_ret2
            rw [← HRR.out]
            exact RetVE.mk rfl (OwnV.nil _ _ _ _) hbel1
        · have hcm : min m 32 = 32 := by omega
          obtain ⟨d, q, e, hg⟩ : ∃ d q e, getB s p 32 = (d, q, e) := ⟨_, _, _, rfl⟩
          have HC : Hid (Calls Try.prog 31 #[.string s, .int .i64 p, .int .i64 32] wr (RetGB 2 d q e wr)) := Lib.hid (getblock_is s p 32 wr hs (by omega) (by omega) hg)
          by_cases he : e = 0
          · subst he
            have hdl := getB_zero hg
            have hfin := (decB_go (l := ls) (by omega) hcm hg).symm.trans HD.out
            have HF := Lib.hid hfin
            clear hfin HD hcm hg
            go_wp2_with fail
            refine HC.out.mono ?_; rintro e w1 ⟨v1, rfl, hown1, hb1⟩
            rcases hown1.forms with ⟨_, hd0⟩ | ⟨gd, cd, rfl, hrow1⟩
            · exfalso
              have : d.length = 0 := by rw [hd0]; rfl
              omega
            have hgd := hrow1.lt
            have hgg := hrow.lt.2
            have hrow' := hrow.below hb1
            have hbel' := hbel.trans (hb1.mono hbel.size)
            have hcd := (hrow1.read)
            obtain ⟨_, _, hv1, hcd1, hcd2, _⟩ := hcd
            cases hv1
            unfold maxLen at hcd2
            have HDL := Lib.hid hdl
            have hd32 : d.length ≤ 32 ∧ 32 ≤ d.length := by omega
            clear HC hown1 hb1 hrow hbel hdl hmi
            go_wp2_with fail
            go_loopw [9, 62] (fun v i wk => ∃ (L : List Int) (j : Nat), v = .slice (some ⟨w.heap.size, 0, none⟩) L.length n ∧ i = .int .i64 j ∧ j ≤ d.length ∧ RowV (Value.int .i64) 2 wk w.heap.size w.heap.size n L ∧ L = acc ls (d.take j) ∧ RowV (Value.int .i64) 2 wk wr.heap.size gd cd d ∧ Below w.heap.size w wk) (fun _ i _ => d.length - (intOf i).toNat)
            case atStart => exact ⟨ls, 0, rfl, rfl, Nat.zero_le _, hrow', rfl, hrow1, hbel'⟩
            case round =>
              clear hrow' hrow1 hbel'
              obtain ⟨L, j, rfl, rfl, hj, hrowL, hL, hrowd, hbelk⟩ := hrel
              have hLl : L.length = ls.length + j := by
                rw [hL, acc_len, List.length_take]; omega
              have hLn : L.length ≤ ls.length + j ∧ ls.length + j ≤ L.length := by omega
              have HL := Lib.hid hL
              clear hL
              by_cases hjl : j < d.length
              · have hlj : d[j]? = some (d[j]'hjl) := List.getElem?_eq_getElem _
                have hgx := hrowd.cell j _ hlj
                have HSN := Lib.hid (acc_snoc ls hlj)
                clear hlj
                generalize d[j]'hjl = x at *
                have hla : L[L.length - 1]? = some (L[L.length - 1]'(by omega)) := List.getElem?_eq_getElem _
                have hgy := hrowL.cell (L.length - 1) _ hla
                have HLA := Lib.hid (last_of hla)
                clear hla
                generalize L[L.length - 1]'_ = y at *
                have hL1 : 1 ≤ L.length := by omega
                have hLr : L.length + 1 ≤ n := by have := HM.out; omega
                have hszk := hbelk.size
                clear hLl
                go_wp2_with (at_builtin; refine wpl_appR (f := Value.int .i64) (fun _ => rfl) (.int .i64 0) rfl _ _ 23 rfl w.heap.size 2 8 Try.underlying23 Try.infI64 w.heap.size n L rfl (hrowL.alloc _) _ _ (wrap64 (y + x)) rfl (RdV.one _ _ _ _ _ (by decide) (by decide)) hLr ?_; intro w3 hrow3 hb3 hg3; have hrowd3 := (hrowd.alloc (.cells #[.int .i64 (wrap64 (y + x))] 2)).keep hg3 (fun e => by have := Option.some.inj e; omega); have hbel3 := (hbelk.alloc hszk (.cells #[.int .i64 (wrap64 (y + x))] 2)).trans hb3; clear hrowL hrowd hb3 hg3)
                go_roundw
                case rel => exact ⟨L ++ [wrap64 (y + x)], j + 1, by rw [List.length_append]; rfl, by go_num, hjl, hrow3, by rw [HSN.out, ← HL.out, HLA.out], hrowd3, hbel3⟩
                case measure => simp [intOf] <;> omega
              · have hLf : L = acc ls d := by rw [HL.out, List.take_of_length_le (by omega)]
                have hmc : m - 32 = n - L.length := by have := HM.out; omega
                have HLF := Lib.hid hLf
                have hfin : decB s (n - L.length) q L = R := by rw [← hmc, hLf]; exact HF.out
                have HFI := Lib.hid hfin
                have hLn2 : 1 ≤ L.length ∧ L.length ≤ n := by have := HM.out; omega
                clear hLl hLf hmc hfin
                go_wp2_with fail
                go_roundw
                case rel => exact ⟨q, L, rfl, rfl, hLn2.1, hLn2.2, hrowL, HFI.out, hbelk⟩
                case measure => simp only [lenS]; have := HM.out; omega
          · have hR := HD.out
            rw [decB_e (by omega) hcm hg he] at hR
            have HRR := Lib.hid hR
            have hd : ((e : Int) != 0) = true := by simp; omega
            clear hR hg hcm he
            go_wp2_with fail
            refine HC.out.mono ?_; rintro e w1 ⟨v1, rfl, _, hb1⟩
            have hbel1 := hbel.trans (hb1.mono hbel.size)
            clear HC hb1
            go_wp2
            go_ret2
            rw [← HRR.out]
            exact RetVE.mk rfl (OwnV.nil _ _ _ _) hbel1
      · by_cases hps : p < s.size
        · have hR := HD.out
          rw [decB_left (by omega) (by omega)] at hR
          have HRR := Lib.hid hR; clear hR
          go_wp2
          go_ret2
          rw [← HRR.out]
          exact RetVE.mk rfl (OwnV.nil _ _ _ _) hbel
        · have hR := HD.out
          rw [decB_done (by omega) (by omega)] at hR
          have HRR := Lib.hid hR; clear hR
          go_wp2
          go_ret2
          rw [← HRR.out]
          exact RetVE.mk rfl hrow.own hbel
  · rw [decX_e (by omega) (by omega) hg he]
    have HG := Lib.hid (getsig_e s 0 w hmx hg he)
    have hd : ((e : Int) != 0) = true := by simp; omega
    clear hg he h0
    go_enter Try.func15, Try.ntmps15
    go_wp2_with (go_at_call 30; (with_reducible refine HG.out.mono ?_); rintro e w' ⟨rfl, rfl⟩)
    go_ret2
    exact RetVE.mk rfl (OwnV.nil _ _ _ _) (Below.refl _ _)
end Go.Proofs.Ytjoohmifbkbpbaa
