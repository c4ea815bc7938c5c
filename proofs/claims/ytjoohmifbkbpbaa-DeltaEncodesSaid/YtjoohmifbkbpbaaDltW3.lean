/- The walk over Encode of package delta. -/
import Derived.Test.YtjoohmifbkbpbaaDltW2
namespace Go.VB
open Go.RowKit
/-- append(b, s...), s a text: what else there is stays. -/
theorem wpl_appF2 {P : Program} {w : World} {ops : Array Oper} {rest : List Oper} {o : Oper} {a : Act} {Q : Exit → Act → World → Prop} (hgd : o.guard = none) (sl x : Operand) (t u : TypeId)
    (ho : o.op = .call { callee := .builtin .append, args := #[sl, x], argTypes := #[t, u] })
    (base : Nat) (e : TypeId) (ht : P.underlying t = some (.slice e)) (hu : P.underlying u = some .string) (hinfo : (P.info? e).map (fun i => (i.zero, i.size, i.bytes)) = some (some (.int .u8 0), 1, 1))
    (v : Value) (bs : List UInt8) (hs : a.eval sl = v) (hown : OwnF w base v bs) (s : ByteArray) (hx : a.eval x = .string s) (hlen : bs.length + s.size ≤ 225179981368000) (hbase : base ≤ w.heap.size)
    (h : ∀ v' w', OwnF w' base v' (bs ++ s.data.toList) → Below base w w' → w.grownBy w' v.ownBlock → wpList P ops Q rest (a.put o.dst v') w') : wpList P ops Q (o :: rest) a w := by
  refine wpList_plain hgd fun K hK => ?_
  obtain ⟨v', w', hr, h2, h3⟩ := run_appF (P := P) w base t u o.type e ht hu hinfo v bs hown s hlen hbase
  have hbel : Below base w w' := (Below.refl _ _).grown h3 hbase (fun b hb => by
    obtain ⟨g, c, rfl, h1, _⟩ := hown
    simp [Value.ownBlock] at hb
    omega)
  unfold Oper.wp execOp
  simp only [ho, resolve, invoke, builtin, Sem.run_bind, Sem.run_pure, Result.andThen_ok, List.map_toArray, List.map_cons, List.map_nil, hs, hx, hr]
  exact hK _ _ (h v' w' h2 hbel h3)
/-- Bytes and whole numbers lie in different blocks. -/
theorem OwnF.apart {w : World} {base base' g c : Nat} {v : Value} {bs : List UInt8} {e : TypeId} {l : List Int} (h : OwnF w base v bs) (hr : RowV (Value.int .i64) e w base' g c l) (hb : bs ≠ []) (hl : l ≠ []) : v.ownBlock ≠ some g := by
  obtain ⟨g', c', rfl, _, _, _, _, _, h6⟩ := h
  intro he
  simp only [Value.ownBlock, Option.some.injEq] at he
  cases bs with
  | nil => exact hb rfl
  | cons b bs =>
    cases l with
    | nil => exact hl rfl
    | cons x l =>
      have h1 := h6 0 b rfl
      have h2 := hr.cell 0 x rfl
      have h3 : g' = g := by simpa using he
      rw [h3, h2] at h1
      simp [bv] at h1
end Go.VB
namespace Go.Proofs.Ytjoohmifbkbpbaa
open Go.RowKit Go.VB Go.VarM Go.BP Go.RL Go.DL
set_option maxRecDepth 100000 in
set_option maxHeartbeats 4000000 in
theorem dencode_any (v : Value) (l : List Int) (B : Nat) (w : World) (hr : RdV (Value.int .i64) w B v l) (hB : B ≤ w.heap.size) (hi : I64 l) :
    Calls Try.prog 9 #[v] w (RetB (.string (str (encX l))) w) := by
  obtain ⟨A, c, rfl, hc1, hc2, hr'⟩ := hr
  have hr : RdV (Value.int .i64) w B (.slice A l.length c) l := ⟨A, c, rfl, hc1, hc2, hr'⟩
  unfold maxLen at hc2
  by_cases h4 : 4096 < l.length
  · rw [encX_out h4]
    have h0 : (((l.length : Nat) : Int) == 0) = false := beq_eq_false_iff_ne.2 (by omega)
    clear hr hr' hi
    go_enter Try.func9, Try.ntmps9
    go_wp2
    go_ret
    exact RetB.mk rfl (Below.refl _ _)
  cases l with
  | nil =>
    clear hr hr'
    go_enter Try.func9, Try.ntmps9
    go_wp2
    go_ret
    exact RetB.mk rfl (Below.refl _ _)
  | cons z r =>
    rw [encX_in (by omega)]
    have hz := hi.head
    obtain ⟨ad, rfl, hab, hg0⟩ := hr' 0 z rfl
    rw [addr_zero] at hg0
    have hld : (df (z :: r)).length = (z :: r).length - 1 := df_len _
    have hdi := df_i64 (z :: r)
    have HDF := Lib.hid (fun w' (hb : Below w.heap.size w w') => diffs_any (.slice (some ad) (z :: r).length c) (z :: r) B w' (hr.below (hb.mono hB)) (Nat.le_trans hB hb.size) (by simp) (by omega))
    have HPS := fun w' => Lib.hid (putsig_any z w' hz)
    have hpl := putL_len10 (zig_lt hz)
    have hpp := putL_pos (zigN z).toNat
    have h0 : (((z :: r).length : Int) == 0) = false := beq_eq_false_iff_ne.2 (by simp; omega)
    have hl1 : 1 ≤ (z :: r).length := by simp
    clear hr hr' hi
    generalize df (z :: r) = D at *
    generalize (z :: r).length = N at *
    generalize putL (zigN z).toNat = H at *
    generalize hT : H ++ encB D = T
    have HT := Lib.hid hT; clear hT
    go_enter Try.func9, Try.ntmps9
    go_wp2_with fail
    refine (HPS _).out.mono ?_
    rintro e w2 ⟨rfl, hb2⟩
    have hsz2 := hb2.size
    obtain ⟨ve, w3, hcv, hown, hb3⟩ := run_bytes_F (P := Try.prog) w2 w.heap.size 9 30 5 (str H) Try.underlying9 Try.underlying30 Try.underlying5 (by rw [str_size]; omega) hsz2
    have hb13 := hb2.trans (hb3.mono hsz2)
    clear HPS hb2 hb3
    go_wp2_with fail
    clear hcv
    refine (HDF.out _ hb13).mono ?_
    rintro e w4 ⟨g, rfl, hrow, hb4⟩
    have hdl := hrow.lt
    obtain ⟨B3, hB3⟩ : ∃ B3, B3 = w3.heap.size := ⟨_, rfl⟩
    rw [← hB3] at hrow
    have hown4 := hown.below hb4
    have hb14 := hb13.trans (hb4.mono hb13.size)
    have hHne : (str H).data.toList ≠ [] := List.ne_nil_of_length_pos hpp
    have hst : (str H).data.toList ++ encB (D.drop 0) = T := HT.out
    have hTl : T.length ≤ 77834 := by
      have h2 := encB_len _ D (Nat.le_refl _) hdi
      rw [← HT.out, List.length_append]; omega
    obtain ⟨n, hn⟩ : ∃ n, D.length = n := ⟨_, rfl⟩
    rw [hn] at hrow ⊢
    have hn4 : n ≤ 4096 := by omega
    have HDI := Lib.hid hdi; have HN := Lib.hid hn
    clear HDF hown hb4 hb13 hsz2 hdi hn hB3 hld h0 hl1 hg0
    go_wp2_with fail
    go_loopw [3, 4] (fun v d wr => ∃ (bs : List UInt8) (k k' m : Nat), d = .slice (some ⟨g, k', none⟩) m m ∧ k + m ≤ n ∧ n ≤ k + m ∧ (0 < m → k' = k) ∧ RowV (Value.int .i64) 2 wr B3 g n D ∧ OwnF wr w.heap.size v bs ∧ bs ≠ [] ∧ bs ++ encB (D.drop k) = T ∧ Below w.heap.size w wr) (fun _ d _ => lenS d)
    case atStart => exact ⟨_, 0, 0, n, rfl, by omega, by omega, fun _ => rfl, hrow, hown4, hHne, hst, hb14⟩
    case round =>
      clear hrow hown4 hHne hst hb14 hdl
      obtain ⟨bs, k, k', m, rfl, hk1, hk2, hkk, hrow, hown, hbs, hT, hbel⟩ := hrel
      by_cases hm0 : 0 < m
      · obtain rfl : k' = k := hkk hm0
        clear hkk
        have hdk : (D.drop k').length = m := by rw [List.length_drop, HN.out]; omega
        have hdne : D.drop k' ≠ [] := List.ne_nil_of_length_pos (by omega)
        have hDne : D ≠ [] := List.ne_nil_of_length_pos (by rw [HN.out]; omega)
        have hPart : ∀ (q : List Int) (cc : Nat), (∀ i x, q[i]? = some x → (D.drop k')[i]? = some x) → q.length ≤ cc → cc ≤ 4096 → RdV (Value.int .i64) wr wr.heap.size (.slice (some ⟨g, k', none⟩) q.length cc) q := fun q cc h1 h2 h3 =>
          hrow.part (fun i x hx => by have := h1 i x hx; rwa [List.getElem?_drop] at this) h2 (by unfold maxLen; omega)
        have hap := hown.apart hrow hbs hDne
        by_cases hm : m ≤ 32
        · have hrd := hPart (D.drop k') m (fun _ _ h => h) (by omega) (by omega)
          rw [hdk] at hrd
          have htk : (D.drop k').take 32 = D.drop k' := List.take_of_length_le (by omega)
          have hd2 : (D.drop k').drop 32 = [] := List.drop_eq_nil_of_le (by omega)
          rw [encB_go hdne, htk, hd2, encB_nil, List.append_nil] at hT
          have hbl := blk_len (HDI.out.drop k') hdne
          have HPB := Lib.hid (putblock_any _ (D.drop k') _ wr hrd (Nat.le_refl _) (by omega) (by omega) (HDI.out.drop k'))
          have hdn : D.drop (k' + m) = [] := List.drop_eq_nil_of_le (by rw [HN.out]; omega)
          generalize blk (D.drop k') = bk at *
          have hlen := congrArg List.length hT
          rw [List.length_append] at hlen
          have H1 := Lib.hid (show bs.length + (str bk).size ≤ 225179981368000 by rw [str_size]; omega)
          have HT2 := Lib.hid hT; have HDN := Lib.hid hdn
          clear hT hlen htk hd2 hdk hPart hrd hdn
          go_wp2_with (first
            | (go_at_call 19; (with_reducible refine HPB.out.mono ?_); rintro e w5 ⟨rfl, hb5⟩; have hown5 := hown.below hb5; have hrow5 := hrow.below hb5; have hbel5 := hbel.trans (hb5.mono hbel.size); clear hown hbel hrow hb5)
            | (at_builtin; refine wpl_appF2 rfl _ _ 30 9 rfl w.heap.size 5 Try.underlying30 Try.underlying9 Try.infoU8 _ bs rfl hown5 _ rfl H1.out hbel5.size ?_; intro v6 w6 hown6 hb6 hg6; have hrow6 := hrow5.keep hg6 hap; have hbel6 := hbel5.trans hb6))
          go_roundw
          case rel => exact ⟨bs ++ bk, k' + m, k', 0, rfl, by omega, by omega, fun h => absurd h (by omega), hrow6, hown6, by simp [hbs], by rw [HDN.out, encB_nil, List.append_nil]; exact HT2.out, hbel6⟩
          case measure => simp only [lenS]; omega
        · have h32 : ((D.drop k').take 32).length = 32 := by rw [List.length_take]; omega
          have hrd := hPart ((D.drop k').take 32) m (fun i x h => by
            rw [List.getElem?_take] at h
            split at h
            · exact h
            · cases h) (by omega) (by omega)
          rw [h32] at hrd
          rw [encB_go hdne, ← List.append_assoc] at hT
          have htne := take_ne hdne
          have hi32 := i64_take (HDI.out.drop k') 32
          have hbl := blk_len hi32 htne
          have HPB := Lib.hid (putblock_any _ ((D.drop k').take 32) _ wr hrd (Nat.le_refl _) (by omega) (by omega) hi32)
          have hdd : (D.drop k').drop 32 = D.drop (k' + 32) := List.drop_drop
          rw [hdd] at hT
          generalize blk ((D.drop k').take 32) = bk at *
          have hlen := congrArg List.length hT
          rw [List.length_append, List.length_append] at hlen
          have H1 := Lib.hid (show bs.length + (str bk).size ≤ 225179981368000 by rw [str_size]; omega)
          have HT2 := Lib.hid hT
          have hmne : ¬ m = 32 := by omega
          clear hT hlen hdk hPart hrd h32 htne hi32 hdd
          go_wp2_with (first
            | (go_at_call 19; (with_reducible refine HPB.out.mono ?_); rintro e w5 ⟨rfl, hb5⟩; have hown5 := hown.below hb5; have hrow5 := hrow.below hb5; have hbel5 := hbel.trans (hb5.mono hbel.size); clear hown hbel hrow hb5)
            | (at_builtin; refine wpl_appF2 rfl _ _ 30 9 rfl w.heap.size 5 Try.underlying30 Try.underlying9 Try.infoU8 _ bs rfl hown5 _ rfl H1.out hbel5.size ?_; intro v6 w6 hown6 hb6 hg6; have hrow6 := hrow5.keep hg6 hap; have hbel6 := hbel5.trans hb6))
          go_roundw
          case rel => exact ⟨bs ++ bk, k' + 32, k' + 32, m - 32, rfl, by omega, by omega, fun _ => rfl, hrow6, hown6, by simp [hbs], HT2.out, hbel6⟩
          case measure => simp only [lenS]; omega
      · have hdn : D.drop k = [] := List.drop_eq_nil_of_le (by rw [HN.out]; omega)
        rw [hdn, encB_nil, List.append_nil] at hT
        subst hT
        have hcv := run_string_of_F (P := Try.prog) 30 9 5 Try.underlying30 Try.underlying5 Try.underlying9 hown
        clear hdn
        go_wp2
        go_ret
        exact RetB.mk rfl hbel
end Go.Proofs.Ytjoohmifbkbpbaa
