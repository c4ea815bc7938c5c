/- The walks over Pack of package bitpack and of its reference. -/
import Derived.Test.YtjoohmifbkbpbaaBitW2
namespace Go.Proofs.Ytjoohmifbkbpbaa
open Go.RowKit Go.VB Go.VarM Go.BP

theorem nvs_u8 {bs : List Nat} (h : ∀ x ∈ bs, x < 2 ^ 8) : (bs.map UInt8.ofNat).map bv = nvs .u8 bs := by
  rw [List.map_map]
  refine List.map_congr_left fun x hx => ?_
  have := h x hx
  simp only [Function.comp, bv]
  rw [UInt8.toNat_ofNat', Nat.mod_eq_of_lt this]
theorem RowN.ownB {e : TypeId} {w : World} {base g c : Nat} {bs : List Nat} (h : RowN .u8 e w base g c bs) (hb : ∀ x ∈ bs, x < 2 ^ 8) : OwnB e w base (.slice (some ⟨g, 0, none⟩) bs.length c) (bs.map UInt8.ofNat) := by
  unfold OwnB
  rw [nvs_u8 hb, List.length_map]; exact h
theorem get_mem {l : List Nat} {j : Nat} (h : j < l.length) : l.getD j 0 ∈ l := by
  rw [List.getD_eq_getElem?_getD, List.getElem?_eq_getElem h]; exact List.getElem_mem h
theorem take_snoc {l : List Nat} {j : Nat} (h : j < l.length) : l.take (j + 1) = l.take j ++ [l.getD j 0] := by
  rw [List.take_succ_eq_append_getElem h, List.getD_eq_getElem?_getD, List.getElem?_eq_getElem h]; rfl
theorem big_take {w : Nat} {l : List Nat} {j : Nat} (h : j < l.length) : big w (l.take (j + 1)) = big w (l.take j) + l.getD j 0 * 2 ^ (w * j) := by
  rw [take_snoc h, big_snoc, List.length_take, Nat.min_eq_left (by omega)]
theorem take_lt {w : Nat} {l : List Nat} {j : Nat} (h : j < l.length) (ht : ∀ x ∈ l.take j, x < 2 ^ w) (hx : l.getD j 0 < 2 ^ w) : ∀ x ∈ l.take (j + 1), x < 2 ^ w := by
  intro x hm
  rw [take_snoc h, List.mem_append] at hm
  rcases hm with hm | hm
  · exact ht x hm
  · rw [List.mem_singleton] at hm; subst hm; exact hx
theorem big_take_lt {w : Nat} {l : List Nat} {j : Nat} (h : j ≤ l.length) (ht : ∀ x ∈ l.take j, x < 2 ^ w) : big w (l.take j) < 2 ^ (w * j) := by
  have := big_lt ht
  rwa [List.length_take, Nat.min_eq_left h] at this
theorem pow_need {n w j : Nat} (h : j ≤ n) : (2 : Nat) ^ (w * j) ≤ 2 ^ (8 * ((n * w + 7) / 8)) := by
  refine Nat.pow_le_pow_right (by decide) ?_
  have : w * j ≤ n * w := by rw [Nat.mul_comm]; exact Nat.mul_le_mul_right _ h
  omega
theorem shr_ne {V k : Nat} : ((V : Int) / 2 ^ k != 0) = decide (¬ V < 2 ^ k) := by
  have e : ((V : Int) / 2 ^ k) = ((V / 2 ^ k : Nat) : Int) := by push_cast; rfl
  rw [e, Bool.eq_iff_iff, bne_iff_ne, decide_eq_true_iff]
  have := shr_zero V k
  omega
theorem putbits_at (a x : Int) (n v at' base g c : Nat) (bs : List Nat) (w : World) (ha : a = at') (hx : x = v) (hn : bs.length = n) (hv : v < 2 ^ 64) (hat : at' ≤ 900000) (hown : RowN .u8 5 w base g c bs) (hbs : ∀ x ∈ bs, x < 2 ^ 8) (hl : bs.length ≤ 100000)
    (hlo : big 8 bs < 2 ^ at') (hhi : big 8 bs + v * 2 ^ at' < 2 ^ (8 * bs.length)) :
    Calls Try.prog 50 #[.slice (some ⟨g, 0, none⟩) n c, .int .i64 a, .int .u64 x] w (PutPost base g c bs (big 8 bs + v * 2 ^ at') w) := by
  subst ha; subst hx; subst hn
  exact putbits_any v at' base g c bs w hv hat hown hbs hl hlo hhi
set_option maxRecDepth 100000 in
set_option maxHeartbeats 2000000 in
theorem bpack_any (vl : Value) (l : List Nat) (k : Int) (B : Nat) (w : World) (hr : RdN .u64 w B vl l) (hB : B ≤ w.heap.size) (hl : ∀ x ∈ l, x < 2 ^ 64) :
    Calls Try.prog 36 #[vl, .int .i64 k] w (RetSE (packR l k).1 (packR l k).2 w) := by
  obtain ⟨A, c, rfl, hc1, hc2, hr'⟩ := hr
  have hr : RdN .u64 w B (.slice A l.length c) l := ⟨A, c, rfl, hc1, hc2, hr'⟩
  clear hr'
  unfold maxLen at hc2
  have HR := Lib.hid hr; clear hr
  by_cases hk : 0 ≤ k ∧ k ≤ 64
  · have h1 := fun w => iswidth_any k w
    rw [decide_eq_true hk] at h1
    have HK := fun w => Lib.hid (h1 w); clear h1
    obtain ⟨k, rfl⟩ := Int.eq_ofNat_of_zero_le hk.1
    have hk64 : k ≤ 64 := by omega
    clear hk
    by_cases hn : l.length ≤ 4096
    · have h1 := fun w => iscount_any (l.length : Nat) w
      rw [decide_eq_true (by omega)] at h1
      have HC := fun w => Lib.hid (h1 w); clear h1
      have h1 := fun w => bneed_any (l.length : Nat) (k : Nat) w
      rw [needN_in hn hk64] at h1
      have HN := fun w => Lib.hid (h1 w); clear h1
      have hm := need_le hn hk64
      generalize hM : (l.length * k + 7) / 8 = m at HN hm
      have HM := Lib.hid hM; clear hM
      have hmk := run_makeN (P := Try.prog) Try.underlying30 Try.infoB8 m (by omega) (by unfold maxLen; omega)
      have hrow := RowN.made .u8 5 w w.heap.size m (Nat.le_refl _) (by unfold maxLen; omega)
      have hb0 : Below w.heap.size w (w.alloc (.cells (madeCells #[.int .u8 0] m) 5)) := (Below.refl _ _).alloc (Nat.le_refl _) _
      generalize hW : (w.alloc (.cells (madeCells #[.int .u8 0] m) 5)) = W1 at hrow hb0
      have hmk1 := hmk w
      rw [hW] at hmk1
      clear hmk hW
      go_enter Try.func36, Try.ntmps36
      go_wp2_with (first
        | (go_at_call 48; refine (HK _).out.mono ?_; rintro e w' ⟨rfl, rfl⟩)
        | (go_at_call 49; refine (HC _).out.mono ?_; rintro e w' ⟨rfl, rfl⟩)
        | (go_at_call 44; refine (HN _).out.mono ?_; rintro e w' ⟨rfl, rfl⟩))
      clear hmk1
      go_loopw [23] (fun i wr => ∃ (j : Nat) (bs : List Nat), i = .int .i64 j ∧ j ≤ l.length ∧ (∀ x ∈ l.take j, x < 2 ^ k) ∧ RowN .u8 5 wr w.heap.size w.heap.size m bs ∧ bs.length = m ∧ (∀ x ∈ bs, x < 2 ^ 8) ∧
        big 8 bs = big k (l.take j) ∧ Below w.heap.size w wr) (fun i _ => l.length - (intOf i).toNat)
      case atStart => exact ⟨0, _, rfl, Nat.zero_le _, by simp, hrow, by simp, zeros_lt 8 m, by rw [big_zeros]; rfl, hb0⟩
      case round =>
        obtain ⟨j, bs, rfl, hj, hx, hrw, hlen, hbs, hbig, hbel⟩ := hrel
        have HX := Lib.hid hx; have HL := Lib.hid hlen; have HG := Lib.hid hbig; clear hx hlen hbig
        by_cases hlt : j < l.length
        · obtain ⟨A', c', hv', _, _, hcell⟩ := HR.out.below (hbel.mono hB)
          cases hv'
          obtain ⟨ad, rfl, had, hcj⟩ := hcell j hlt
          clear hcell
          have hV64 := hl _ (get_mem hlt)
          have hbt := big_take (w := k) hlt
          have htl := fun h => take_lt (w := k) hlt HX.out h
          have hmem := get_mem hlt
          generalize l.getD j 0 = V at *
          have HBT := Lib.hid hbt; have HTL := Lib.hid htl; have HME := Lib.hid hmem; clear hbt htl hmem
          have hd := shr_ne (V := V) (k := k)
          by_cases hV : V < 2 ^ k
          · rw [decide_eq_false (by simpa using hV)] at hd
            have hjk : j * k ≤ 4096 * 64 := Nat.mul_le_mul (by omega) hk64
            have hjk1 : (j : Int) * (k : Int) ≤ 262144 := by rw [← Int.natCast_mul]; omega
            have hjk2 : 0 ≤ (j : Int) * (k : Int) := by rw [← Int.natCast_mul]; omega
            have hput := putbits_at ((j : Int) * (k : Int)) (V : Int) m V (k * j) w.heap.size w.heap.size m bs wr (by rw [Nat.mul_comm]; push_cast; rfl) rfl HL.out (by simpa using hV64) (by rw [Nat.mul_comm]; omega) hrw hbs (by rw [HL.out]; omega)
              (by rw [HG.out]; exact big_take_lt hj HX.out)
              (by rw [HG.out, HL.out, ← HBT.out, ← HM.out]; exact Nat.lt_of_lt_of_le (big_take_lt hlt (HTL.out hV)) (pow_need hlt))
            have HPUT := Lib.hid hput; clear hput
            go_wp2_with (go_at_call 50; refine HPUT.out.mono ?_; rintro e w' ⟨rfl, bs', hrw', hlen', hbs', hbig', hbel'⟩)
            go_roundw
            case rel => exact ⟨j + 1, bs', by go_num, hlt, HTL.out hV, hrw', hlen'.trans HL.out, hbs', by rw [hbig', HBT.out, HG.out], hbel.trans hbel'⟩
            case measure => simp [intOf] <;> omega
          · rw [decide_eq_true hV] at hd
            go_wp2
            go_ret2
            refine RetB.mk ?_ hbel
            rw [packR_over hk64 hn HME.out hV]; rfl
        · have hjl : j = l.length := by omega
          have hall : ∀ x ∈ l, x < 2 ^ k := fun x hm => HX.out x (by rw [hjl, List.take_length]; exact hm)
          have hbs2 : bs = digs 8 m (big k l) := digs_of hbs HL.out (by rw [HG.out, hjl, List.take_length])
          have HB2 := Lib.hid hbs2; clear hbs2
          have hcv := run_string_of_own (P := Try.prog) 30 9 5 Try.underlying30 Try.underlying5 Try.underlying9 (RowN.ownB hrw hbs)
          rw [HL.out] at hcv
          go_wp2
          go_ret2
          refine RetB.mk ?_ hbel
          rw [packR_ok hk64 hn hall]
          unfold packed
          rw [HM.out, ← HB2.out]; rfl
    · have h1 := fun w => iscount_any (l.length : Nat) w
      rw [decide_eq_false (by omega)] at h1
      have HC := fun w => Lib.hid (h1 w); clear h1
      rw [packR_full hk64 (by omega)]
      go_enter Try.func36, Try.ntmps36
      go_wp2_with (first
        | (go_at_call 48; refine (HK _).out.mono ?_; rintro e w' ⟨rfl, rfl⟩)
        | (go_at_call 49; refine (HC _).out.mono ?_; rintro e w' ⟨rfl, rfl⟩))
      go_ret2
      exact RetB.mk rfl (Below.refl _ _)
  · have h1 := fun w => iswidth_any k w
    rw [decide_eq_false hk] at h1
    have HK := fun w => Lib.hid (h1 w); clear h1
    rw [packR_range (by omega)]
    go_enter Try.func36, Try.ntmps36
    go_wp2_with (first
      | (go_at_call 48; refine (HK _).out.mono ?_; rintro e w' ⟨rfl, rfl⟩))
    go_ret2
    exact RetB.mk rfl (Below.refl _ _)
end Go.Proofs.Ytjoohmifbkbpbaa
