/- The walks over parseLines and Parse. -/
import Derived.Test.YtfkdenlpailmeaaDoorSchC3
import Derived.Test.YtfkdenlpailmeaaDoorSchM
import Derived.Test.YtfkdenlpailmeaaDoorSchW4
namespace Go.SC
open Go.RowKit Go.VB Go.VL
def strLen : Value → Nat
  | .string s => s.size
  | _ => 0
/-- What parseLines leaves. -/
def PLn (T : TypeId) (R : PRes) (w : World) : Ending → World → Prop := fun e w' => Below w.heap.size w w' ∧
  match R with
  | .bad k => e = .returned (.tuple #[.slice none 0 0, .string ⟨#[]⟩, .int .i64 (k : Int), .int .i64 2])
  | .ok cs n k => ∃ v, e = .returned (.tuple #[v, .string (str n), .int .i64 (k : Int), .int .i64 0]) ∧ OwnC T w' w.heap.size v cs
theorem PLn.bad {T : TypeId} {k : Nat} {w w' : World} {R : PRes} {v : Value} (h : R = .bad k) (hv : v = .tuple #[.slice none 0 0, .string ⟨#[]⟩, .int .i64 (k : Int), .int .i64 2]) (hb : Below w.heap.size w w') : PLn T R w (.returned v) w' := by
  subst h; exact ⟨hb, by rw [hv]⟩
theorem PLn.ok {T : TypeId} {k : Nat} {cs : List Col} {n : List UInt8} {w w' : World} {R : PRes} {u v : Value} (h : R = .ok cs n k) (hv : u = .tuple #[v, .string (str n), .int .i64 (k : Int), .int .i64 0]) (ho : OwnC T w' w.heap.size v cs) (hb : Below w.heap.size w w') : PLn T R w (.returned u) w' := by
  subst h; exact ⟨hb, v, by rw [hv], ho⟩
theorem results_tmp4 {fn : Func} {t u v x : Tmp} {P : Program} (h : fn.results = #[.tmp t, .tmp u, .tmp v, .tmp x]) (tmps : Array Value) (w : World) :
    (results fn tmps).run P w = .ok (.tuple #[tmps.getD t undef, tmps.getD u undef, tmps.getD v undef, tmps.getD x undef]) w := by
  simp [results, h]
theorem unl_len (t : List UInt8) (ts : List (List UInt8)) (tail : List UInt8) : (unl (t :: ts) tail).length = t.length + 1 + (unl ts tail).length := by
  rw [unl_cons]; simp; omega
end Go.SC
namespace Go.Proofs.YtfkdenlpailmeaaDoor
open Go.RowKit Go.VB Go.VL Go.SC
set_option linter.constructorNameAsVariable false
set_option maxRecDepth 100000 in
set_option maxHeartbeats 8000000 in
theorem parseLines_any (l : List UInt8) (W : World) (hz : l.length ≤ 65536) : Calls Tryd.prog 21 #[.string (str l)] W (PLn 32 (plr (lns l).2 (lns l).1 [] 0) W) := by
  obtain ⟨hl, hnl⟩ := lns_ok l
  generalize (lns l).1 = ts0 at *
  generalize (lns l).2 = tail at *
  subst hl
  obtain ⟨R, hR⟩ : ∃ R, plr tail ts0 [] 0 = R := ⟨_, rfl⟩
  rw [hR]
  have HR := Lib.hid hR
  have HNL := Lib.hid hnl
  clear hR hnl
  have HBAD := fun (k : Nat) => Lib.hid (fun h v w' => PLn.bad (T := 32) (k := k) (w := W) (w' := w') (R := R) (v := v) h)
  have HOK := fun (k : Nat) (cs : List Col) (n : List UInt8) => Lib.hid (fun h u v w' => PLn.ok (T := 32) (k := k) (cs := cs) (n := n) (w := W) (w' := w') (R := R) (u := u) (v := v) h)
  generalize hP : PLn 32 R W = P at *
  clear hP
  go_enter Tryd.func21, Tryd.ntmps21
  go_wp2_with fail
  go_loopw [0, 2, 3, 4, 5, 6, 7, 8, 9, 10, 11, 12] (fun src v r3 r4 r5 _ _ _ _ _ _ _ wr => ∃ (ts : List (List UInt8)) (cs : List Col), src = .string (str (unl ts tail)) ∧ r3 = .string ⟨#[]⟩ ∧ r4 = .int .i64 (cs.length : Nat) ∧ r5 = .int .i64 0 ∧ Below W.heap.size W wr ∧ cs.length + (unl ts tail).length ≤ 65536 ∧
      Hid (OwnC 32 wr W.heap.size v cs) ∧ Hid (NL ts tail) ∧ Hid (plr tail ts cs cs.length = R)) (fun src _ _ _ _ _ _ _ _ _ _ _ _ => strLen src)
  case atStart => exact ⟨ts0, [], rfl, rfl, rfl, rfl, Below.refl _ _, by simpa using hz, Lib.hid (OwnC.nil _ _ _), HNL, HR⟩
  case round =>
    obtain ⟨ts, cs, rfl, rfl, rfl, rfl, hB, hlen, HO, HNLr, HRr⟩ := hrel
    clear HNL HR hz
    have hcl : cs.length ≤ 65536 := by omega
    cases ts with
    | nil =>
      rw [unl_nil]
      by_cases ht : tail = []
      · subst ht
        have hE := Lib.hid ((HBAD 0).out (HRr.out.symm.trans (plr_end rfl)))
        rw [str_nil]
        clear HO HNLr HRr HBAD HOK hlen
        go_wp2_with fail
        refine bodyPost_ret (results_tmp4 Tryd.results21 _ _) rfl ?_
        exact hE.out _ _ rfl hB
      · have hE := Lib.hid ((HBAD (cs.length + 1)).out (HRr.out.symm.trans (plr_open ht)))
        have hne := str_full ht
        have HC := fun w => Lib.hid (cut_miss tail 10 w HNLr.out.2)
        clear HO HNLr HRr HBAD HOK hlen ht
        generalize str tail = S at *
        go_wp2_with fail
        refine (HC _).out.mono ?_
        rintro e w1 ⟨rfl, n, rfl⟩
        go_wp2_with fail
        refine bodyPost_ret (results_tmp4 Tryd.results21 _ _) rfl ?_
        exact hE.out _ _ (by go_num) (Go.below_drewN hB n)
    | cons t ts =>
      have hul := unl_len t ts tail
      have hNLt : (10 : UInt8) ∉ t := HNLr.out.1 t (by simp)
      have HNL2 : Hid (NL ts tail) := Lib.hid ⟨fun x hx => HNLr.out.1 x (List.mem_cons_of_mem _ hx), HNLr.out.2⟩
      rw [unl_cons]
      have hne : (str (t ++ 10 :: unl ts tail)).toList.isEmpty = false := str_full (by simp)
      have HC := fun w => Lib.hid (cut_hit t (unl ts tail) 10 w hNLt (by simp; omega))
      have HK := fun w => Lib.hid (parseKey_any t w (by omega))
      have HCo := fun w => Lib.hid (parseCol_any t w (by omega))
      have HSZ : Hid ((str (unl ts tail)).size < (str (t ++ 10 :: unl ts tail)).size) := Lib.hid (by rw [size_of, size_of]; simp; omega)
      have hlen2 : cs.length + 1 + (unl ts tail).length ≤ 65536 := by omega
      clear HNLr hNLt hlen hul
      generalize str (t ++ 10 :: unl ts tail) = S at *
      go_wp2_with fail
      refine (HC _).out.mono ?_
      rintro e w1 ⟨rfl, n, rfl⟩
      replace hB := Go.below_drewN hB n
      replace HO := Lib.hid (HO.out.below (Go.below_drewN (Below.refl _ _) n))
      generalize wr.drewN n = w1 at *
      clear HC
      go_wp2_with fail
      refine (HK _).out.mono ?_
      rintro e w2 ⟨hb, hk⟩
      replace hB := bel_trans hB hb
      replace HO := Lib.hid (HO.out.below hb)
      clear HK hb
      rcases hk with ⟨nm, hkey, rfl⟩ | ⟨hkey, rfl⟩
      · by_cases hr : unl ts tail = []
        · have hts : ts = [] ∧ tail = [] := by
            cases ts with
            | nil => exact ⟨rfl, hr⟩
            | cons _ _ => rw [unl_cons] at hr; simp at hr
          obtain ⟨rfl, rfl⟩ := hts
          have hE := Lib.hid ((HOK (cs.length + 1) cs nm).out (HRr.out.symm.trans (plr_key hkey rfl)))
          rw [hr, str_nil]
          clear HNL2 HCo HSZ HBAD HOK HRr hkey hr
          generalize str nm = X at *
          go_wp2_with fail
          refine bodyPost_ret (results_tmp4 Tryd.results21 _ _) rfl ?_
          exact hE.out _ _ _ (by go_num) HO.out hB
        · have hE := Lib.hid ((HBAD (cs.length + 2)).out (HRr.out.symm.trans (plr_more hkey hr)))
          have hrf := str_full hr
          clear HNL2 HCo HSZ HBAD HOK HRr hkey hr HO
          generalize str (unl ts tail) = Y at *
          generalize str nm = X at *
          go_wp2_with fail
          refine bodyPost_ret (results_tmp4 Tryd.results21 _ _) rfl ?_
          exact hE.out _ _ (by go_num) hB
      · have hrS : True := trivial
        clear hrS
        go_wp2_with fail
        refine (HCo _).out.mono ?_
        rintro e w3 ⟨hb, hc⟩
        replace hB := bel_trans hB hb
        replace HO := Lib.hid (HO.out.below hb)
        clear HCo hb
        rcases hc with ⟨c, hcol, rfl⟩ | ⟨hcol, rfl⟩
        · have HRn := Lib.hid ((plr_col (ts := ts) (cs := cs) (k := cs.length) (tail := tail) hkey hcol).symm.trans HRr.out)
          clear hkey hcol HRr HBAD HOK
          unfold Col.val
          have HCN := fun w => Lib.hid (cells_newC w c 32)
          have hBn := hB.size
          go_wp2_with (at_builtin; refine wpl_appC rfl _ _ 22 rfl W.heap.size 32 Tryd.underlying22 Tryd.infCol _ cs rfl ((HO.out.alloc _).alloc _) (w3.heap.size + 1) 1 c rfl ?_ (by omega) (by simp; omega) ?_)
          · intro j u hj
            have h1 := (HCN (w3.alloc (.cells #[.string c.nm, .int .i64 c.ty, .int .i64 c.sc, .bool c.nu] 32))).out j u hj
            rw [show (w3.alloc (.cells #[.string c.nm, .int .i64 c.ty, .int .i64 c.sc, .bool c.nu] 32)).heap.size = w3.heap.size + 1 from by simp] at h1
            exact h1
          · intro v' w' ho hb2
            have hB2 := (((hB.alloc hBn (.cells #[.string c.nm, .int .i64 c.ty, .int .i64 c.sc, .bool c.nu] 32)).alloc (by simp; omega) (.cells #[.string c.nm, .int .i64 c.ty, .int .i64 c.sc, .bool c.nu] 32)).trans hb2)
            clear HCN HO hb2 hB
            have HLE : Hid ((cs ++ [c]).length = cs.length + 1) := Lib.hid (by simp)
            go_wp2_with fail
            go_roundw
            case rel => exact ⟨ts, cs ++ [c], rfl, rfl, by rw [HLE.out]; rfl, rfl, hB2, by rw [HLE.out]; exact hlen2, Lib.hid ho, HNL2, Lib.hid (by rw [HLE.out]; exact HRn.out)⟩
            case measure => exact HSZ.out
        · have hE := Lib.hid ((HBAD (cs.length + 1)).out (HRr.out.symm.trans (plr_bad hkey hcol)))
          clear HNL2 HSZ HBAD HOK HRr hkey hcol HO
          unfold Col.val col0
          generalize str (unl ts tail) = Y at *
          go_wp2_with fail
          refine bodyPost_ret (results_tmp4 Tryd.results21 _ _) rfl ?_
          exact hE.out _ _ (by go_num) (hB.alloc hB.size _)
end Go.Proofs.YtfkdenlpailmeaaDoor
