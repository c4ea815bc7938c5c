/- The lists of numbers of the statements of layer 2, and what each of them asks first. -/
import Derived.Test.YtnlbfanbgicmgaaBitW6
import Derived.Test.YtnlbfanbgicmgaaArgs
namespace Go.Proofs.Ytnlbfanbgicmgaa
open Go.RowKit Go.VB Go.VarM Go.BP
/-- Numbers of at most k binary digits, at most 100, in a list of its own. -/
def NumPost (k : Nat) (w : World) : Ending → World → Prop := fun e w' => ∃ v l, e = .returned v ∧ OwnN .u64 23 w' w.heap.size v l ∧ l.length ≤ 100 ∧ (∀ x ∈ l, x < 2 ^ k) ∧ Below w.heap.size w w'
theorem NumPost.mk {k : Nat} {w w' : World} {x v : Value} {l : List Nat} (hx : x = v) (ho : OwnN .u64 23 w' w.heap.size v l) (h100 : l.length ≤ 100) (hl : ∀ x ∈ l, x < 2 ^ k) (hb : Below w.heap.size w w') : NumPost k w (.returned x) w' :=
  ⟨v, l, by rw [hx], ho, h100, hl, hb⟩
theorem u64_some (z : Int) : ∃ X : Nat, IntKind.u64.wrap z = X ∧ X < 2 ^ 64 := by
  refine ⟨(IntKind.u64.wrap z).toNat, ?_, ?_⟩ <;> (rw [IntKind.wrap_u64]; omega)
theorem snoc_lt {k : Nat} {l : List Nat} {x : Nat} (h : ∀ y ∈ l, y < 2 ^ k) (hx : x < 2 ^ k) : ∀ y ∈ l ++ [x], y < 2 ^ k := by
  intro y hy
  rw [List.mem_append, List.mem_singleton] at hy
  rcases hy with hy | hy
  · exact h y hy
  · subst hy; exact hx
theorem RdN.one (k : IntKind) (w : World) (x m : Nat) (e : TypeId) (hm : 1 ≤ m) (hm2 : m ≤ maxLen) : RdN k (w.alloc (.cells #[.int k (x : Int)] e)) (w.heap.size + 1) (.slice (some ⟨w.heap.size, 0, none⟩) 1 m) [x] :=
  ⟨_, m, rfl, hm, hm2, fun i hi => ⟨_, rfl, Nat.lt_succ_self _, by
    have h0 : i = 0 := by simp at hi; omega
    subst h0
    simp [Addr.add]⟩⟩
set_option maxRecDepth 100000 in
set_option maxHeartbeats 2000000 in
theorem numbers_any (vl : Value) (zs : List Int) (k : Nat) (B : Nat) (w : World) (hr : RdI .i64 w B vl zs) (hB : B ≤ w.heap.size) (hk : k ≤ 64) :
    Calls Try.prog 25 #[vl, .int .i64 (k : Int)] w (NumPost k w) := by
  obtain ⟨A, c, rfl, hc1, hc2, hr'⟩ := hr
  have hr : RdI .i64 w B (.slice A zs.length c) zs := ⟨A, c, rfl, hc1, hc2, hr'⟩
  clear hr'
  unfold maxLen at hc2
  have HR := Lib.hid hr; clear hr
  go_enter Try.func25, Try.ntmps25
  go_wp2
  go_loopw [5, 6] (fun o i wr => ∃ (j : Nat) (l : List Nat), i = .int .i64 j ∧ j ≤ zs.length ∧ j ≤ 100 ∧ OwnN .u64 23 wr w.heap.size o l ∧ l.length = j ∧ (∀ x ∈ l, x < 2 ^ k) ∧ Below w.heap.size w wr) (fun _ i _ => 100 - (intOf i).toNat)
  case atStart => exact ⟨0, [], rfl, Nat.zero_le _, Nat.zero_le _, OwnN.nil _ _ _ _, rfl, by simp, Below.refl _ _⟩
  case round =>
    obtain ⟨j, l, rfl, hj, hj2, hown, hlen, hl, hbel⟩ := hrel
    have HL := Lib.hid hlen; clear hlen
    by_cases hlt : j < zs.length
    · by_cases hlt2 : j < 100
      · obtain ⟨_, _, hv1, _, _, hcx⟩ := HR.out.below (hbel.mono hB)
        cases hv1
        obtain ⟨ad, rfl, had, hgx⟩ := hcx j hlt
        clear hcx
        generalize zs.getD j 0 = z at hgx
        obtain ⟨X, hX, hX64⟩ := u64_some (IntKind.u64.wrap z * 11400714819323198485)
        have hmk := mask_low X k hk hX64
        have hsz := hbel.size
        have hbig : (2 : Nat) ^ k ≤ 2 ^ 64 := Nat.pow_le_pow_right (by decide) hk
        have hlen' : l.length < 100 := by rw [HL.out]; exact hlt2
        by_cases hk64 : k < 64
        · have hmod : X % 2 ^ k < 2 ^ k := Nat.mod_lt _ (Nat.two_pow_pos _)
          generalize X % 2 ^ k = Y at hmk hmod
          go_wp2_with (at_builtin; refine wpl_appN rfl _ _ 32 rfl w.heap.size 23 .u64 8 Try.underlying32 Try.infoU64 _ l rfl (hown.alloc _) (wr.heap.size + 1) _ [Y] rfl (RdN.one _ _ _ _ _ (by decide) (by decide)) (by unfold maxLen; simp; omega) (by simp; omega) (by simp; omega) ?_)
          intro v' w' hown' hb' _
          clear hgx hX hmk
          go_wp2
          go_roundw
          case rel => exact ⟨j + 1, _, by go_num, by omega, by omega, hown', by rw [List.length_append, HL.out]; rfl, snoc_lt hl hmod, (hbel.alloc hsz _).trans hb'⟩
          case measure => simp [intOf] <;> omega
        · have hX' : X < 2 ^ k := Nat.lt_of_lt_of_le hX64 (Nat.pow_le_pow_right (by decide) (by omega))
          clear hmk
          go_wp2_with (at_builtin; refine wpl_appN rfl _ _ 32 rfl w.heap.size 23 .u64 8 Try.underlying32 Try.infoU64 _ l rfl (hown.alloc _) (wr.heap.size + 1) _ [X] rfl (RdN.one _ _ _ _ _ (by decide) (by decide)) (by unfold maxLen; simp; omega) (by simp; omega) (by simp; omega) ?_)
          intro v' w' hown' hb' _
          clear hgx hX
          go_wp2
          go_roundw
          case rel => exact ⟨j + 1, _, by go_num, by omega, by omega, hown', by rw [List.length_append, HL.out]; rfl, snoc_lt hl hX', (hbel.alloc hsz _).trans hb'⟩
          case measure => simp [intOf] <;> omega
      · go_wp2
        go_ret
        exact NumPost.mk rfl hown (by rw [HL.out]; exact hj2) hl hbel
    · have hd : decide (j < zs.length) = false := by simpa using hlt
      go_wp2
      go_ret
      exact NumPost.mk rfl hown (by rw [HL.out]; exact hj2) hl hbel
theorem bpack_eq (vl : Value) (l : List Nat) (k : Int) (B : Nat) (w : World) (hr : RdN .u64 w B vl l) (hB : B ≤ w.heap.size) (hl : ∀ x ∈ l, x < 2 ^ 64) {s : ByteArray} {c : Nat} (h : packR l k = (s, c)) :
    Calls Try.prog 14 #[vl, .int .i64 k] w (RetSE s c w) := by
  have := bpack_any vl l k B w hr hB hl
  rw [h] at this; exact this
theorem rpack_eq (vl : Value) (l : List Nat) (k : Int) (B : Nat) (w : World) (hr : RdN .u64 w B vl l) (hB : B ≤ w.heap.size) (hl : ∀ x ∈ l, x < 2 ^ 64) {s : ByteArray} {c : Nat} (h : packR l k = (s, c)) :
    Calls Try.prog 21 #[vl, .int .i64 k] w (RetSE s c w) := by
  have := rpack_any vl l k B w hr hB hl
  rw [h] at this; exact this
theorem bunpack_eq (s : ByteArray) (n k : Int) (w : World) {l : List Nat} {c : Nat} (h : unpackR s n k = (l, c)) :
    Calls Try.prog 22 #[.string s, .int .i64 n, .int .i64 k] w (RetNE .u64 23 l c w) := by
  have := bunpack_any s n k w
  rw [h] at this; exact this
theorem runpack_eq (s : ByteArray) (n k : Int) (w : World) {l : List Nat} {c : Nat} (h : unpackR s n k = (l, c)) :
    Calls Try.prog 23 #[.string s, .int .i64 n, .int .i64 k] w (RetNE .u64 23 l c w) := by
  have := runpack_any s n k w
  rw [h] at this; exact this
theorem bwidth_int (x : Int) (w : World) (h0 : 0 ≤ x) (h1 : x ≤ 18446744073709551615) : Calls Try.prog 15 #[.int .u64 x] w (Ret (.int .i64 (wid x.toNat : Nat)) w) := by
  obtain ⟨n, rfl⟩ := Int.eq_ofNat_of_zero_le h0
  exact bwidth_any n w (by omega)
theorem rwidth_int (x : Int) (w : World) (h0 : 0 ≤ x) (h1 : x ≤ 18446744073709551615) : Calls Try.prog 19 #[.int .u64 x] w (Ret (.int .i64 (wid x.toNat : Nat)) w) := by
  obtain ⟨n, rfl⟩ := Int.eq_ofNat_of_zero_le h0
  exact rwidth_any n w (by omega)
/-- The number that Pick returns. -/
def pickN (v n : Int) : Int := (if v < 0 then v + 18446744073709551616 else v) % n
theorem pickN_bd (v : Int) {n : Int} (h : 0 < n) : 0 ≤ pickN v n ∧ pickN v n < n := ⟨Int.emod_nonneg _ (by omega), Int.emod_lt_of_pos _ h⟩
theorem pick_at (v n : Int) (w : World) (hv : (Lit.int .i64 v).wf = true) (h3 : 1 ≤ n) (h4 : n ≤ 1000000) : Calls Try.prog 17 #[.int .i64 v, .int .i64 n] w (Ret (.int .i64 (pickN v n)) w) := by
  obtain ⟨h1, h2⟩ := bounds_i64 hv
  exact pick_any v n w h1 h2 h3 h4
theorem packed123 : packR [1, 2, 3] 2 = (⟨#[57]⟩, 0) := by
  rw [show (2 : Int) = ((2 : Nat) : Int) from rfl, packR_ok (by decide) (by decide) (by decide)]
  decide +kernel
theorem RdN.three (w : World) (e : TypeId) (m : Nat) (hm : 3 ≤ m) (hm2 : m ≤ maxLen) : RdN .u64 (w.alloc (.cells #[.int .u64 1, .int .u64 2, .int .u64 3] e)) (w.heap.size + 1) (.slice (some ⟨w.heap.size, 0, none⟩) 3 m) [1, 2, 3] :=
  ⟨_, m, rfl, hm, hm2, fun i hi => ⟨_, rfl, Nat.lt_succ_self _, by
    have h0 : i = 0 ∨ i = 1 ∨ i = 2 := by simp at hi; omega
    rcases h0 with rfl | rfl | rfl <;> simp [Addr.add]⟩⟩
set_option maxRecDepth 100000 in
set_option maxHeartbeats 400000 in
theorem awake2_any (w : World) : Calls Try.prog 18 #[] w (RetB (.bool true) w) := by
  go_enter Try.func18, Try.ntmps18
  go_wp2_with fail
  refine (bpack_eq _ _ 2 _ _ (RdN.three _ _ _ (by decide) (by decide)) (by simp) (by decide) packed123).mono ?_
  rintro e w' ⟨rfl, hb⟩
  have hb' := ((Below.refl w.heap.size w).alloc (Nat.le_refl _) (.cells #[.int .u64 1, .int .u64 2, .int .u64 3] 23)).trans (hb.mono (by simp))
  clear hb
  go_wp2
  go_ret
  exact RetB.mk rfl hb'
end Go.Proofs.Ytnlbfanbgicmgaa
