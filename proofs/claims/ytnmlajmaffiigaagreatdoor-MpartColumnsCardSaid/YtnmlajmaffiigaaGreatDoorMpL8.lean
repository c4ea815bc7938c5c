/- MpartColumns. -/
import Derived.Test.YtnmlajmaffiigaaGreatDoorMpU
import Derived.Test.YtnmlajmaffiigaaGreatDoorLaid
import Derived.Test.YtnmlajmaffiigaaGreatDoorMpXc
set_option linter.constructorNameAsVariable false
set_option maxRecDepth 100000
set_option maxHeartbeats 4000000
open Go Go.Proofs Go.Proofs.YtnmlajmaffiigaaGreatDoor Go.P
namespace Go.P
open RowKit VB VarM BP VS VL SC CK Go.ST MK RS ZN MP ChangeShapes WideShapes ChangeAt
theorem mpartColumns_walk(v0 v1:Value)(zx zl:List Int)(at':Int)(b:Int)(W:World)(rx:RdI .i64 W W.heap.size v0 zx)(wx:∀z∈zx,(Lit.int .i64 z).wf=true)(rl:RdI .i64 W W.heap.size v1 zl)(wl:∀z∈zl,(Lit.int .i64 z).wf=true)(_wat':(Lit.int .i64 at').wf=true)(wb:(Lit.int .u8 b).wf=true):
   Calls Tryz.prog 9 #[v0,v1,.int .i64 at',.int .u8 b] W (RetB (.bool true) W):=by
 have HAWK:=fun w=>Hd (Av4 w)
 have hK:=Hd (Bu1 W v0 zx rx wx)
 go_enter Tryz.func9,Tryz.ntmps9
 go_wp2_with fail
 (with_reducible refine hK.out.mono ?_);rintro e w1 ⟨hb1,yv,ycs,yk,rfl,hoy,hko⟩
 have hyr:=OwnC.read hoy
 obtain⟨yA,yc,rfl,-,-,-⟩:=id hyr
 have hVy:=Var2.new w1 (.slice yA ycs.length yc) (.int .i64 yk) 24
 have hba:=(Q2 w1.heap.size w1).alloc (Q1 _) (.cells #[(.slice yA ycs.length yc),.int .i64 yk] 24)
 obtain⟨X1,hX1⟩:∃X,w1.alloc (.cells #[(.slice yA ycs.length yc),.int .i64 yk] 24)=X:=⟨_,rfl⟩
 rw[hX1] at hVy hba
 have HX1:=Hd hX1
 have HB1:=Hd (Aa0 hb1 hba)
 have hyr1:=hyr.step hba
 have HKO:=Hd hko
 have HKR:=fun w(h:Below X1.heap.size X1 w)=>Hd (show Calls Tryz.prog 16 #[.agg #[.slice yA ycs.length yc,.int .i64 yk],v1,.int .i64 6] w (Eq8 ycs yk 6 w) from Bu0 w ycs (.slice yA ycs.length yc) yk v1 zl 6 (by decide) (hyr1.step h) (Bo7 hko) (Ds0 hko) ((rl.step HB1.out).step h) wl)
 have HY1:=Hd (fun(w:World)(h:Below X1.heap.size X1 w)=>hyr1.step h)
 have HV1:=Hd (fun(w:World)(h:Below X1.heap.size X1 w)=>hVy.step h)
 obtain⟨v0',v1',-,-⟩:=id hVy
 have hm12:ycs.length<=12:=Bo7 hko
 clear hX1 hK hb1 hoy hba hyr hyr1 hVy hko
 have hbb:=bounds_u8 wb
 clear wb
 go_wp2_with fail
 rw[HX1.out]
 (with_reducible refine(HKR _ (Q2 _ _)).out.mono ?_);rintro e w2 ⟨u,ls,rfl,hz,hzl,⟨hok,hin⟩,hpw,hb2⟩;have HK:=Hd (Ci1 HKO.out hok hin hpw hzl);obtain⟨Z,hZ⟩:∃Z,Ap8 ycs yk ls=Z:=⟨_,rfl⟩;rw[hZ] at HK hz;obtain⟨uA,uc,un,rfl,hun,-,-⟩:=hz.bds;have HZ:=Hd hz;have HUN:=Hd hun;clear hz hok hin hpw hzl hZ hun
 have HB2:=Hd hb2
 obtain⟨v0',v1',-,-⟩:=HV1.out w2 hb2
 clear hb2 HKR HX1
 go_wp2_with fail
 (with_reducible refine(Ax5 ycs (.slice yA ycs.length yc) yk (.slice uA un uc) Z _ (HY1.out _ HB2.out) HZ.out HK.out.inr).mono ?_);rintro e w3 ⟨rfl,hb3⟩
 have HB3:=Hd (Aa0 HB2.out hb3)
 have HZ3:=Hd (HZ.out.step hb3)
 obtain⟨v0',v1',-,-⟩:=HV1.out w3 HB3.out
 clear hb3
 by_cases h0:Z.length=0
 ·rw[HK.out.nil h0,show((1:Nat):Int)=1 from rfl]
  go_wp2_with(go_at_call 22;(with_reducible refine(HAWK _).out.mono ?_);rintro e w4 ⟨rfl,hb4⟩)
  go_ret
  exact RetB.mk rfl (Aa0 HB1.out (Aa0 HB3.out hb4))
 have hE:=HK.out.ok (by decide) h0
 rw[Bk2 hE,hE,show((0:Nat):Int)=0 from rfl]
 have hbig:=HK.out.big (by decide) h0
 have h16:=Cj1 ycs yk Z
 have H0:=Hd h0
 have hcol:=Ff3 HK.out.S (by have:=HK.out.len;omega) h0 HK.out.inr (Q1 ycs.length)
 rw[At0 (Nat.lt_irrefl _)] at hcol
 have HCH:=Hd (fun(x y:UInt8)hy hne=>Ff1 (x:=x) (y:=y) HK.out.S (by have:=HK.out.len;omega) H0.out HK.out.inr HKO.out.1 hy hne)
 have HCF:=Hd (fun(F:ByteArray)(hF:F.size<=140737488351232)(z:Int)(w:World)(h:Below X1.heap.size X1 w)=>Ch5 ycs (.slice yA ycs.length yc) yk F z w (HY1.out w h) hF)
 rw[At0 (Nat.lt_irrefl _)] at HCH
 generalize Aa9 ycs yk Z=T at *
 clear hE h0
 obtain⟨N,hN⟩:∃N,T.length=N:=⟨_,rfl⟩
 have hsT:=Aa3 T
 rw[hN] at hsT hbig h16
 obtain⟨S,hS⟩:∃S,str T=S:=⟨_,rfl⟩
 rw[hS] at hsT hcol⊢
 have HS:=Hd hS;have HN:=Hd hN
 have hC1:=HCF.out S (by omega) (ycs.length:Int) w3 HB3.out
 rw[hcol] at hC1
 have HC1:=Hd hC1
 clear hS hN hC1 hcol
 go_wp2_with fail
 (with_reducible refine HC1.out.mono ?_);rintro e w4 ⟨u4,rfl,ho4,hb4⟩
 have HB4:=Hd (Aa0 HB3.out hb4)
 have HZ4:=Hd (HZ3.out.step hb4)
 have HL4:=Hd ho4.read
 obtain⟨lA,lc,ln,rfl,hln,-,-⟩:=ho4.read.bds
 obtain rfl:un=ln:=by rw[hln,Bs3,HUN.out]
 clear ho4 hb4 hln HC1
 obtain⟨v0',v1',-,-⟩:=HV1.out w4 HB4.out
 have hd0:((un:Int)!=(un:Int))=false:=by simp
 go_wp2_with fail
 clear v0' v1' hd0
 go_loopw[8,15,51] (fun r8 _ iv wr=>∃j:Nat,iv=.int .i64 j/\j<=un/\r8=.bool false/\Below w4.heap.size w4 wr) (fun _ _ iv _=>un-(intOf iv).toNat)
 case atStart=>exact⟨0,rfl,Nat.zero_le _,rfl,Q2 _ _⟩
 case round=>
  obtain⟨j,rfl,hj,rfl,hbj⟩:=hrel
  by_cases hlt:j<un
  case pos=>
   have hd1:decide ((j:Int)<(un:Int))=true:=Q4 (by omega)
   have hd1':decide (j<un)=true:=Q4 hlt
   have hun1:un<=6:=by have h1:=HK.out.len;have h2:=HUN.out;omega
   have hzl:Z[j]?=some (Z[j]'(by have h2:=HUN.out;omega)):=Q7 _
   obtain⟨ad,rA,rn,rc,e1,-,q0,q1,-,-⟩:=(HZ4.out.below hbj).at hzl
   obtain⟨ad2,e2,-,a0,a1,a2⟩:=(HL4.out.below hbj).at (show(Bs4 Z)[j]?=some ⟨false,(Z[j]'(by have h2:=HUN.out;omega)).seq,⟨#[]⟩⟩ by unfold Bs4;rw[List.getElem?_map,hzl];rfl)
   subst e1;subst e2
   generalize (Z[j]'(by have h2:=HUN.out;omega)).seq=Q at *
   have HBJ:=Hd hbj
   clear hzl hbj q1 hbig h16
   go_wp2_with fail
   go_quiet(fail)
   have hq:=Go.below_drewN HBJ.out nq
   clear a0 a1 a2 q0
   go_wp2_with fail
   go_roundw
   case rel=>exact⟨j+1,by go_num,hlt,rfl,hq⟩
   case measure=>simp[intOf];omega
  have hd1:decide ((j:Int)<(un:Int))=false:=Q3 (by omega)
  have hd1':decide (j<un)=false:=Q3 hlt
  have HBJ:=Hd (Aa0 HB4.out hbj)
  have HL5:=Hd (HL4.out.step hbj)
  clear hj hbj HZ HZ3 HZ4 HL4 HB2 HB3 HB4
  have hg:=Ai1 S
  obtain⟨X,hX⟩:∃X,S.extract 0 4=X:=⟨_,rfl⟩
  obtain⟨Y,hY⟩:∃Y,S.extract 5 N=Y:=⟨_,rfl⟩
  have hXs:X.size<=830000:=by rw[←hX,ByteArray.size_extract];omega
  have hYs:Y.size<=830000:=by rw[←hY,ByteArray.size_extract];omega
  have q2:(4:Int)<=(N:Int):=by omega
  have q2b:(4:Int)<(N:Int):=by omega
  have q3m:4<N:=by omega
  have q4:(5:Int)<=(N:Int):=by omega
  have q4m:5<=N:=by omega
  obtain⟨c,hcc,c1,c2⟩:=Cq7 hbb.1
  have hxx:=Er4 (Ah2 S 4) c1 c2
  obtain⟨xv,hxv⟩:∃x,bits .xor .u8 (bN S 4:Nat) c=x:=⟨_,rfl⟩
  rw[hxv] at hxx
  obtain⟨hxn,hxb⟩:=hxx
  have hU:X++str [UInt8.ofNat xv.toNat]++Y=str (chg T 4 (UInt8.ofNat xv.toNat)):=Cw2 HS.out (UInt8.ofNat xv.toNat) hX (by first | exact hY | (rw[hsT];exact hY))
  obtain⟨hne1,hne2⟩:=HCH.out (UInt8.ofNat xv.toNat) _ (Ea1 T (by rw[HN.out];exact q3m)) (by rw[HS.out];exact hxn)
  rw[←hU] at hne1 hne2
  have HOW:=fun w=>Hd (Cq8 5 w hxb)
  have hY1:(str [UInt8.ofNat xv.toNat]).size=1:=by rw[Aa3];rfl
  obtain⟨M,hM⟩:∃M,str [UInt8.ofNat xv.toNat]=M:=⟨_,rfl⟩
  rw[hM] at hU hne1 hne2 hY1
  have HM:=Hd hM
  clear hM
  have a1:∀w,(Op.stringOp .add X M).run Tryz.prog w=.ok (.string (X++M)) w:=fun w=>run_string_add_sum w _ _ (by omega)
  have a2:∀w,(Op.stringOp .add (X++M) Y).run Tryz.prog w=.ok (.string (X++M++Y)) w:=fun w=>run_string_add_sum w _ _ (by rw[ByteArray.size_append];omega)
  have hUs:(X++M++Y).size<=140737488351232:=by rw[ByteArray.size_append,ByteArray.size_append];omega
  have HCA:=Hd (fun(w:World)(h:Below X1.heap.size X1 w)=>show Calls Tryz.prog 31 #[.agg #[.slice yA ycs.length yc,.int .i64 yk],.string (X++M++Y),.int .i64 0] w (RetVlE 49 [] 9 w) from by
   have h:=HCF.out _ hUs 0 w h
   rw[hne1] at h
   exact h)
  have HCB:=Hd (fun(w:World)(h:Below X1.heap.size X1 w)=>show Calls Tryz.prog 31 #[.agg #[.slice yA ycs.length yc,.int .i64 yk],.string (X++M++Y),.int .i64 (ycs.length:Int)] w (RetVlE 49 (Bs4 Z) 0 w) from by
   have h:=HCF.out _ hUs (ycs.length:Int) w h
   rw[hne2] at h
   exact h)
  generalize X++M++Y=U at *
  clear hU hne1 hne2 hUs hY1 HCF HCH hXs hYs hbig h16 hxn hxb c1 c2
  have hcv:=Ad4 (P:=Tryz.prog) 41 9 5 Tryz.underlying41 Tryz.underlying5 Tryz.underlying9 (HOW wr).out
  rw[HM.out] at hcv
  go_wp2_with fail
  go_region_with(fail)
  all_goals
   have HB5:=Hd (show Below X1.heap.size X1 (wr.alloc (.cells #[.int .u8 xv] 5)).drew from Aa0 HBJ.out (by go_grown))
   have HL6:=Hd (HL5.out.step (show Below wr.heap.size wr (wr.alloc (.cells #[.int .u8 xv] 5)).drew by go_grown))
   generalize (wr.alloc (.cells #[.int .u8 xv] 5)).drew=w5 at *
   obtain⟨v0',v1',-,-⟩:=HV1.out w5 HB5.out
   clear hcv
   go_wp2_with fail
   (with_reducible refine(HCA.out _ HB5.out).mono ?_);rintro e w6 ⟨y6,rfl,-,hb6⟩
   have HB6:=Hd (Aa0 HB5.out hb6)
   have HL7:=Hd (HL6.out.step hb6)
   obtain⟨v0',v1',-,-⟩:=HV1.out w6 HB6.out
   clear hb6
   go_wp2_with fail
   (with_reducible refine(HCB.out _ HB6.out).mono ?_);rintro e w7 ⟨y7,rfl,ho7,hb7⟩
   have HB7:=Hd (Aa0 HB6.out hb7)
   have HL8:=Hd (HL7.out.step hb7)
   have HR8:=Hd ho7.read
   clear hb7 ho7
   go_wp2_with(first
    | (go_at_call 22;(with_reducible refine(HAWK _).out.mono ?_);rintro e w8 ⟨rfl,hb8⟩;have HB8:=Hd hb8)
    | (go_at_call 32;(with_reducible refine(Dl5 _ _ (Bs4 Z) w8 (HR8.out.step HB8.out) (HL8.out.step HB8.out)).mono ?_);rintro e w9 ⟨rfl,hb9⟩))
   go_ret
   exact RetB.mk rfl (Aa0 HB1.out (Aa0 HB7.out (Aa0 HB8.out hb9)))
end Go.P
