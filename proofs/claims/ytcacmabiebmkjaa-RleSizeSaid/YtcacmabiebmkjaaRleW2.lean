/- The walks over package rle and its reference: counting runs, Encode. -/
import Derived.Test.YtcacmabiebmkjaaRleW1
namespace Go.Proofs.Ytcacmabiebmkjaa
open Go.RowKit Go.VB Go.VarM Go.RL
theorem zig_nat {x : Int} (h : -9223372036854775808 ≤ x ∧ x ≤ 9223372036854775807) : ∃ z : Nat, zigN x = z ∧ (zigN x).toNat = z ∧ z < 18446744073709551616 :=
  ⟨(zigN x).toNat, by rw [Int.toNat_of_nonneg (zig_bd h.1 h.2).1], rfl, zig_lt h⟩
theorem drop0 {l : List Int} {i : Nat} (h : i < l.length) : (l.drop i)[0]? = some l[i] := by
  rw [List.getElem?_drop, Nat.add_zero, List.getElem?_eq_getElem h]
set_option maxRecDepth 100000 in
set_option maxHeartbeats 1000000 in
theorem runs_any (v : Value) (l : List Int) (B : Nat) (w : World) (hr : RdV (Value.int .i64) w B v l) (hB : B ≤ w.heap.size) :
    Calls Try.prog 14 #[v] w (RetB (.int .i64 (nR l : Nat)) w) := by
  obtain ⟨A, c, rfl, hc1, hc2, hr'⟩ := hr
  have hr : RdV (Value.int .i64) w B (.slice A l.length c) l := ⟨A, c, rfl, hc1, hc2, hr'⟩
  clear hr'
  unfold maxLen at hc2
  have HR := Lib.hid hr; clear hr
  generalize hT : nR l = T
  have HT := Lib.hid hT; clear hT
  go_enter Try.func14, Try.ntmps14
  go_wp2
  go_loopw [3, 4] (fun k i wr => ∃ (m j : Nat), k = .int .i64 m ∧ i = .int .i64 j ∧ j ≤ l.length ∧ m ≤ j ∧ m + nR (l.drop j) = T ∧ Below w.heap.size w wr) (fun _ i _ => l.length - (intOf i).toNat)
  case atStart => exact ⟨0, 0, rfl, rfl, Nat.zero_le _, Nat.le_refl _, by rw [List.drop_zero, Nat.zero_add]; exact HT.out, Below.refl _ _⟩
  case round =>
    obtain ⟨m, j, rfl, rfl, hj, hm, hs, hbel⟩ := hrel
    have HS := Lib.hid hs; clear hs
    by_cases hlt : j < l.length
    · have hlj : l[j]? = some l[j] := List.getElem?_eq_getElem hlt
      have h1 := nR_at hlj
      obtain ⟨h2, h3⟩ := fr_at hlj
      obtain ⟨_, _, hv1, _, _, hcx⟩ := HR.out.below (hbel.mono hB)
      cases hv1
      obtain ⟨ad, rfl, _, _⟩ := hcx j _ hlj
      have HC := Lib.hid (first_any _ _ _ B wr ((HR.out.below (hbel.mono hB)).tail j (by omega)) (Nat.le_trans hB hbel.size) (drop0 hlt))
      clear hcx hlj
      generalize fr l[j] (l.drop j) = q at *
      have H1 := Lib.hid h1; clear h1
      go_wp2_with (go_at_call 20; (with_reducible refine HC.out.mono ?_); rintro e w2 ⟨rfl, hb⟩)
      go_roundw
      case rel => exact ⟨m + 1, j + q, by go_num, by go_num, h3, by omega, by have := HS.out; have := H1.out; omega, bel_trans hbel hb⟩
      case measure => simp [intOf] <;> omega
    · go_wp2
      go_ret
      have he : l.drop j = [] := List.drop_eq_nil_of_le (by omega)
      exact RetB.mk (vint (by have h := HS.out; rw [he, nR_nil] at h; omega)) hbel
set_option maxRecDepth 100000 in
set_option maxHeartbeats 2000000 in
theorem encode_any (v : Value) (l : List Int) (B : Nat) (w : World) (hr : RdV (Value.int .i64) w B v l) (hB : B ≤ w.heap.size) (hi : I64 l) (hl : l.length ≤ 17592186043904) :
    Calls Try.prog 10 #[v] w (RetB (.string (str (encR l))) w) := by
  obtain ⟨A, c, rfl, hc1, hc2, hr'⟩ := hr
  have hr : RdV (Value.int .i64) w B (.slice A l.length c) l := ⟨A, c, rfl, hc1, hc2, hr'⟩
  clear hr'
  unfold maxLen at hc2
  have HR := Lib.hid hr; clear hr
  have hlen := encR_len hi
  have HI := Lib.hid hi; clear hi
  generalize hT : encR l = T at hlen
  have HT := Lib.hid hT; clear hT
  go_enter Try.func10, Try.ntmps10
  go_wp2
  go_loopw [3, 4] (fun v i wr => ∃ (bs : List UInt8) (j : Nat), i = .int .i64 j ∧ j ≤ l.length ∧ OwnB 5 wr w.heap.size v bs ∧ bs ++ encR (l.drop j) = T ∧ Below w.heap.size w wr) (fun _ i _ => l.length - (intOf i).toNat)
  case atStart => exact ⟨[], 0, rfl, Nat.zero_le _, OwnB.empty _ _ _ _ (Nat.le_refl _) _ rfl (by decide), by rw [List.drop_zero, List.nil_append]; exact HT.out, (Below.refl _ _).alloc (Nat.le_refl _) _⟩
  case round =>
    obtain ⟨bs, j, rfl, hj, hown, hs, hbel⟩ := hrel
    by_cases hlt : j < l.length
    · have hlj : l[j]? = some l[j] := List.getElem?_eq_getElem hlt
      obtain ⟨h2, h3⟩ := fr_at hlj
      rw [encR_at hlj, run1] at hs
      have hx := HI.out.at hlj
      obtain ⟨z, hz1, hz2, hz3⟩ := zig_nat hx
      have HZ := fun w => vzig_any l[j] w hx.1 hx.2
      rw [hz1] at HZ
      rw [hz2] at hs
      obtain ⟨_, _, hv1, _, _, hcx⟩ := HR.out.below (hbel.mono hB)
      cases hv1
      obtain ⟨ad, rfl, hab, hgx⟩ := hcx j _ hlj
      have HC := Lib.hid (first_any _ _ _ B wr ((HR.out.below (hbel.mono hB)).tail j (by omega)) (Nat.le_trans hB hbel.size) (drop0 hlt))
      clear hcx hlj hz1 hz2 hx
      generalize fr l[j] (l.drop j) = q at *
      generalize l[j] = x at *
      have hq : q < 18446744073709551616 := by omega
      have hsum := congrArg List.length hs
      simp only [List.length_append] at hsum
      have hP := fun w => vput_any q w hq
      have hZ := fun w => vput_any z w hz3
      have hsP := str_size (putL q)
      have hsZ := str_size (putL z)
      have HS := Lib.hid hs; have HZZ := fun w => Lib.hid (HZ w); have HP := fun w => Lib.hid (hP w); have HZ' := fun w => Lib.hid (hZ w)
      clear hs HZ hP hZ
      have H4 : bs.length + (putL q).length + (putL z).length ≤ 193514046482944 := by omega
      clear hsum
      have H5 : bs.length + (str (putL q)).size ≤ 225179981368000 := by omega
      have H6 : (bs ++ (str (putL q)).data.toList).length + (str (putL z)).size ≤ 225179981368000 := by rw [List.length_append, size_list]; omega
      have H5' := Lib.hid H5; have H6' := Lib.hid H6
      clear hsP hsZ H4 H5 H6 hz3 hq
      have hab' : ∀ (w' : World), Below w.heap.size w w' → (ad.add j).block < w'.heap.size := fun _ h => by rw [block_add]; have := h.size; omega
      have HAB := Lib.hid hab'; clear hab'
      have hab2 : (ad.add j).block < w.heap.size := by rw [block_add]; omega
      go_wp2_with (first
        | (go_at_call 20; (with_reducible refine HC.out.mono ?_); rintro e w2 ⟨rfl, hb⟩; replace hgx := (hb.cell (HAB.out _ hbel)).trans hgx; replace hown := hown.below hb; replace hbel := bel_trans hbel hb; clear hb)
        | (go_at_call 21; (with_reducible refine (HP _).out.mono ?_); rintro e w3 ⟨rfl, hb⟩; replace hgx := (hb.cell (HAB.out _ hbel)).trans hgx; replace hown := hown.below hb; replace hbel := bel_trans hbel hb; clear hb)
        | (at_builtin; refine wpl_appS rfl _ _ 31 9 rfl w.heap.size 5 Try.underlying31 Try.underlying9 Try.infoU8 _ bs rfl hown _ rfl H5'.out hbel.size ?_; intro v4 w4 hown4 hb hg; replace hgx := (hb.cell hab2).trans hgx; clear hown; have hown := hown4; clear hown4; replace hbel := hbel.trans hb; clear hb hg)
        | (go_at_call 22; (with_reducible refine (HZZ _).out.mono ?_); rintro e w' ⟨rfl, rfl⟩)
        | (go_at_call 21; (with_reducible refine (HZ' _).out.mono ?_); rintro e w5 ⟨rfl, hb⟩; replace hgx := (hb.cell (HAB.out _ hbel)).trans hgx; replace hown := hown.below hb; replace hbel := bel_trans hbel hb; clear hb)
        | (at_builtin; refine wpl_appS rfl _ _ 31 9 rfl w.heap.size 5 Try.underlying31 Try.underlying9 Try.infoU8 _ (bs ++ (str (putL q)).data.toList) rfl hown _ rfl H6'.out hbel.size ?_; intro v6 w6 hown6 hb hg; clear hown; have hown := hown6; clear hown6; replace hbel := hbel.trans hb; clear hb hg))
      go_roundw
      case rel => exact ⟨_, j + q, by go_num, h3, hown, by rw [← HS.out, str_toList, str_toList]; simp only [List.append_assoc], hbel⟩
      case measure => simp [intOf] <;> omega
    · have hcv := run_string_of_own (P := Try.prog) 31 9 5 Try.underlying31 Try.underlying5 Try.underlying9 hown
      have HS := Lib.hid hs; clear hs
      go_wp2
      go_ret
      have he : l.drop j = [] := List.drop_eq_nil_of_le (by omega)
      exact RetB.mk (by have h := HS.out; rw [he, encR_nil, List.append_nil] at h; rw [h]; rfl) hbel
end Go.Proofs.Ytcacmabiebmkjaa
